/-
  The sum of two finite numbers that are no zeros: walked.
-/
import Derived.Test.YthclnopdmmibiaaDoorA0
import Derived.Deep.DeepCutAuto
import Derived.Deep.CutBlock
namespace Go.Proofs.YthclnopdmmibiaaDoor
open Go.RowKit Go.Shelf

/-- A number with its sign, as an int times 2^-1074; and the number nearest to such an int. -/
def sX (x : Int) : Int := if negB x = true then -XI x else XI x
def R (s : Int) : Int := if s = 0 then 0 else rndI (decide (s < 0)) (if s < 0 then -s else s) (-1074)

theorem join_at {neg more : Bool} {v e : Int} {n : Nat} (hv : Bits v n) : ∀ (w : World) (en : Ending) (w' : World), JoinPost neg v e more w en w' → en = .returned (.int .u64 (joinV neg v e n more)) ∧ Below w.heap.size w w' := by
  intro w en w' h
  obtain ⟨m, hm, h1, h2, rfl, hb⟩ := join_full hv.v0 h
  refine ⟨?_, hb⟩
  by_cases hz : v = 0
  · unfold joinV; rw [if_pos (.inl hz), if_pos (.inl hz)]
  · have := len_unique h1 (h2 hz) hv.lt (hv.ge hz)
    rw [this, Int.toNat_natCast]

theorem sum_val (neg : Bool) {mp mq ep eq D up d : Int} (h1 : 1 ≤ mp) (h2 : 0 ≤ mq) (he : -1074 ≤ eq) (hD : D = ep - eq) (h0 : 0 ≤ D) (hup : up = min D 70) (hd : d = D - up) :
    joinV neg (mp * pw up + mq / pw d) (ep - up) (blen (mp * pw up + mq / pw d)) (mq % pw d != 0) = rndI neg (mp * pw (ep + 1074) + mq * pw (eq + 1074)) (-1074) := by
  have hP := pw_pos d
  have eE : (mq + mp * pw up * pw d) * pw (eq + 1074) = mp * pw (ep + 1074) + mq * pw (eq + 1074) := by
    rw [Int.add_mul, Int.mul_assoc, ← pw_add _ _ (by omega) (by omega), Int.mul_assoc, ← pw_add _ _ (by omega) (by omega), Int.add_comm]
    congr 3; omega
  have e1 : (mq + mp * pw up * pw d) / pw d = mq / pw d + mp * pw up := Int.add_mul_ediv_right _ _ (Int.ne_of_gt hP)
  have e2 : (mq + mp * pw up * pw d) % pw d = mq % pw d := Int.add_mul_emod_self_right _ _ _
  have hg : pw up ≤ mp * pw up := by
    have := Int.mul_le_mul_of_nonneg_right h1 (Int.le_of_lt (pw_pos up)); rw [Int.one_mul] at this; exact this
  have hq := Int.ediv_nonneg h2 (Int.le_of_lt hP)
  have hE : 0 ≤ mq + mp * pw up * pw d := Int.add_nonneg h2 (Int.mul_nonneg (by have := pw_pos up; omega) (Int.le_of_lt hP))
  rw [← eE, rnd_scale neg (-1074) hE (by omega), show -1074 + (eq + 1074) = eq by omega]
  have := rnd_sticky neg (v := mq + mp * pw up * pw d) (d := d) eq (mq % pw d != 0) hE (by omega) ?_ (by rw [e2]; simp)
  · rw [← this, e1, Int.add_comm (mq / pw d), show eq + d = ep - up by omega]
  · by_cases c : d = 0
    · exact .inl c
    · right
      have : up = 70 := by omega
      rw [e1]; rw [this] at hg ⊢
      have : pw 60 ≤ pw 70 := pow_lt (by decide) (by decide)
      omega

theorem diff_parts {G m P : Int} (hP : 0 < P) : (G * P - m) / P = G - m / P - (if m % P = 0 then 0 else 1) ∧ ((G * P - m) % P = 0 ↔ m % P = 0) := by
  have e := Int.mul_ediv_add_emod m P
  have r0 := Int.emod_nonneg m (Int.ne_of_gt hP)
  have r1 := Int.emod_lt_of_pos m hP
  by_cases c : m % P = 0
  · have : G * P - m = 0 + (G - m / P) * P := by rw [Int.sub_mul, Int.mul_comm (m / P)]; omega
    rw [this, Int.add_mul_ediv_right _ _ (Int.ne_of_gt hP), Int.add_mul_emod_self_right, if_pos c]
    simp [c]
  · have : G * P - m = (P - m % P) + (G - m / P - 1) * P := by rw [Int.sub_mul, Int.sub_mul, Int.mul_comm (m / P)]; omega
    rw [this, Int.add_mul_ediv_right _ _ (Int.ne_of_gt hP), Int.add_mul_emod_self_right, if_neg c]
    have a : (P - m % P) / P = 0 := Int.ediv_eq_zero_of_lt (by omega) (by omega)
    have b : (P - m % P) % P = P - m % P := Int.emod_eq_of_lt (by omega) (by omega)
    rw [a, b]
    exact ⟨by omega, by constructor <;> intro h <;> omega⟩

theorem diff_val (neg : Bool) {mp mq ep eq D up d : Int} (h1 : 1 ≤ mp) (h2 : 0 ≤ mq) (hq2 : mq < 9007199254740992) (he : -1074 ≤ eq) (hD : D = ep - eq) (h0 : 0 ≤ D) (hup : up = min D 70) (hd : d = D - up)
    (hle : mq * pw (eq + 1074) ≤ mp * pw (ep + 1074)) :
    0 ≤ mp * pw up - mq / pw d - (if mq % pw d = 0 then 0 else 1) ∧
    joinV neg (mp * pw up - mq / pw d - (if mq % pw d = 0 then 0 else 1)) (ep - up) (blen (mp * pw up - mq / pw d - (if mq % pw d = 0 then 0 else 1))) (mq % pw d != 0) = rndI neg (mp * pw (ep + 1074) - mq * pw (eq + 1074)) (-1074) ∧
    (mp * pw up - mq / pw d = 0 ↔ mp * pw (ep + 1074) = mq * pw (eq + 1074)) := by
  have hP := pw_pos d
  obtain ⟨e1, e2⟩ := diff_parts (G := mp * pw up) (m := mq) hP
  have eE : (mp * pw up * pw d - mq) * pw (eq + 1074) = mp * pw (ep + 1074) - mq * pw (eq + 1074) := by
    rw [Int.sub_mul, Int.mul_assoc, ← pw_add _ _ (by omega) (by omega), Int.mul_assoc, ← pw_add _ _ (by omega) (by omega)]
    congr 3; omega
  have hk := pw_pos (eq + 1074)
  have hE : 0 ≤ mp * pw up * pw d - mq := by
    rcases Int.lt_or_le (mp * pw up * pw d - mq) 0 with c | c
    · have := Int.mul_neg_of_neg_of_pos c hk; omega
    · exact c
  have hg : pw up ≤ mp * pw up := by
    have := Int.mul_le_mul_of_nonneg_right h1 (Int.le_of_lt (pw_pos up)); rw [Int.one_mul] at this; exact this
  have hq := Int.ediv_nonneg h2 (Int.le_of_lt hP)
  have hq3 : mq / pw d ≤ mq := Int.ediv_le_self _ h2
  have hbig : d = 0 ∨ pw 60 + 1 ≤ mp * pw up - mq / pw d - (if mq % pw d = 0 then 0 else 1) := by
    by_cases c : d = 0
    · exact .inl c
    · right
      have : up = 70 := by omega
      rw [this] at hg ⊢
      have e70 : pw 70 = 1180591620717411303424 := rfl
      have e60 : pw 60 = 1152921504606846976 := rfl
      rw [e70] at hg ⊢
      rw [e60]
      split <;> omega
  refine ⟨by rw [← e1]; exact Int.ediv_nonneg hE (Int.le_of_lt hP), ?_, ?_⟩
  · rw [← eE, rnd_scale neg (-1074) hE (by omega), show -1074 + (eq + 1074) = eq by omega]
    have := rnd_sticky neg (v := mp * pw up * pw d - mq) (d := d) eq (mq % pw d != 0) hE (by omega) (by rw [e1]; omega) (by rw [e2]; simp)
    rw [← this, e1, show eq + d = ep - up by omega]
  · have : mp * pw (ep + 1074) = mq * pw (eq + 1074) ↔ mp * pw up * pw d - mq = 0 := by
      constructor
      · intro h
        have : (mp * pw up * pw d - mq) * pw (eq + 1074) = 0 := by rw [eE]; omega
        rcases Int.mul_eq_zero.1 this with h | h
        · exact h
        · omega
      · intro h; rw [h, Int.zero_mul] at eE; omega
    rw [this]
    constructor
    · intro h
      rcases hbig with c | c
      · subst c
        rw [show pw 0 = 1 from rfl] at h ⊢
        rw [Int.ediv_one] at h; omega
      · exfalso
        have := pw_pos 60
        rw [h] at c
        split at c <;> omega
    · intro h
      rw [h, Int.zero_ediv] at e1
      rw [h, Int.zero_emod] at e2
      rw [if_pos (e2.1 rfl)] at e1
      omega
end Go.Proofs.YthclnopdmmibiaaDoor
