/-
  Stage 6, plain facts on whole.To: what is rounded to a whole number, as an int.
-/
import Derived.Test.YtomeidbigofnaaaG11
namespace Go.Proofs.Ytomeidbigofnaaa
open Go.RowKit Go.Shelf

/-- A number that holds the whole number N, with a sign. -/
structure Holds (V N : Int) (s : Bool) : Prop where
  w : Word V
  fin : kindI V < 3
  neg : negB V = s
  n0 : 0 ≤ N
  big : 9223372036854775808 ≤ N ↔ 4890909195324358656 ≤ absI V
  eq : N = 9223372036854775808 ↔ absI V = 4890909195324358656
  up : 0 ≤ powI V → N = mantI V * pw (powI V) ∧ (N < 9223372036854775808 → powI V ≤ 10)
  dn : powI V < 0 → N = mantI V / pw (min (-powI V) 63)
  whole : wholI V = N
  left : leftI V = 0

theorem sign_parts (s : Bool) (E f : Int) (hE : 0 ≤ E) (hE1 : E < 2047) (hf : 0 ≤ f) (hf1 : f < 4503599627370496) :
    Word (signI s + (E * 4503599627370496 + f)) ∧ negB (signI s + (E * 4503599627370496 + f)) = s ∧ expI (signI s + (E * 4503599627370496 + f)) = E ∧ fracI (signI s + (E * 4503599627370496 + f)) = f ∧ absI (signI s + (E * 4503599627370496 + f)) = E * 4503599627370496 + f := by
  cases s <;> simp only [signI, negB, expI, fracI, absI, Word] <;> refine ⟨⟨by omega, by omega⟩, by simp; omega, by omega, by omega, by omega⟩
theorem dn_min {M k : Int} (h0 : 0 ≤ M) (h1 : M < 9007199254740992) : M / pw k = M / pw (min k 63) := by
  rcases Int.le_total k 63 with c | c
  · rw [Int.min_eq_left c]
  · rw [Int.min_eq_right c, Int.ediv_eq_zero_of_lt h0 (by have := pw_big c; omega), Int.ediv_eq_zero_of_lt h0 (by rw [show pw 63 = 9223372036854775808 from rfl]; omega)]
theorem holds_norm (s : Bool) {M k : Int} (h0 : 4503599627370496 ≤ M) (h1 : M < 9007199254740992) (k0 : 0 ≤ k) (k1 : k ≤ 52) (hd : M % pw k = 0) :
    Holds (signI s + ((1075 - k) * 4503599627370496 + (M - 4503599627370496))) (M / pw k) s := by
  obtain ⟨a, b, c, d, e⟩ := sign_parts s (1075 - k) (M - 4503599627370496) (by omega) (by omega) (by omega) (by omega)
  generalize signI s + ((1075 - k) * 4503599627370496 + (M - 4503599627370496)) = x at *
  have hm : mantI x = M := by unfold mantI; rw [c, d, if_neg (by omega), if_neg (by omega)]; omega
  have hp : powI x = -k := by unfold powI; rw [c, if_neg (by omega), if_neg (by omega)]; omega
  have q0 : 0 ≤ M / pw k := Int.ediv_nonneg (by omega) (Int.le_of_lt (pw_pos _))
  have q1 : M / pw k ≤ M := Int.ediv_le_self _ (by omega)
  have hz : k = 0 → M / pw k = M := fun z => by rw [z, show pw 0 = 1 from rfl]; omega
  refine ⟨a, kind_of_fin a (by omega), b, q0, ?_, ?_, ?_, ?_, ?_, ?_⟩
  · rw [e]; omega
  · rw [e]; omega
  · intro z
    rw [hm, hp, show (-k) = 0 by omega, show pw 0 = 1 from rfl]
    have := hz (by omega)
    omega
  · intro z
    rw [hm, hp, Int.neg_neg]
    exact dn_min (by omega) (by omega)
  · unfold wholI
    rw [hp, hm]
    split
    · rw [show (-k) = 0 by omega, show pw 0 = 1 from rfl]
      have := hz (by omega)
      omega
    · rw [Int.neg_neg]
  · unfold leftI
    rw [hp, hm]
    split
    · rfl
    · rw [Int.neg_neg]; exact hd
/-- A whole number of at most 53 bits (2^53 too) is held as it is. -/
theorem holds_small (s : Bool) {N : Int} (h0 : 0 ≤ N) (h1 : N ≤ 9007199254740992) : Holds (rndI s N 0) N s := by
  rw [rnd_neg]
  rcases Int.lt_or_le N 9007199254740992 with c | c
  · rcases Int.lt_or_le 0 N with z | z
    · have hb := blen_bits h0
      generalize blen N = n at hb
      have l1 := hb.lt
      have l2 := hb.ge (by omega)
      have n1 : (n : Int) ≤ 53 := by
        rcases Int.lt_or_le 53 (n : Int) with d | d
        · have := pw_mono (a := 54) (by decide) (show 54 ≤ (n : Int) by omega)
          rw [show pw 54 = 18014398509481984 from rfl] at this
          omega
        · exact d
      have n0 : 1 ≤ (n : Int) := by
        rcases Int.lt_or_le (n : Int) 1 with d | d
        · rw [show (n : Int) = 0 by omega, show pw 0 = 1 from rfl] at l1
          omega
        · exact d
      have k0 : 0 ≤ 53 - (n : Int) := by omega
      have p := pw_pos (53 - (n : Int))
      have ep : pw (n : Int) * pw (53 - (n : Int)) = 9007199254740992 := by
        rw [← pw_add _ _ (by omega) k0, show (n : Int) + (53 - n) = 53 by omega]; rfl
      have M1 : N * pw (53 - (n : Int)) < 9007199254740992 := by rw [← ep]; exact Int.mul_lt_mul_of_pos_right l1 p
      have M0 : 4503599627370496 ≤ N * pw (53 - (n : Int)) := by
        have := Int.mul_le_mul_of_nonneg_right l2 (Int.le_of_lt p)
        rw [ep, Int.mul_assoc] at this
        omega
      have hdv : N * pw (53 - (n : Int)) / pw (53 - (n : Int)) = N := Int.mul_ediv_cancel _ (by omega)
      have H := holds_norm s M0 M1 k0 (by omega) (Int.mul_emod_left _ _)
      rw [hdv] at H
      have F := holds_norm false M0 M1 k0 (by omega) (Int.mul_emod_left _ _)
      have e1 := mant_self _ F.w (fin_of_kind F.w F.fin)
      have S := rnd_scale false ((n : Int) - 53) h0 k0
      rw [show (n : Int) - 53 + (53 - n) = 0 by omega] at S
      obtain ⟨a, b, c', d, e⟩ := sign_parts false (1075 - (53 - (n : Int))) (N * pw (53 - (n : Int)) - 4503599627370496) (by omega) (by omega) (by omega) (by omega)
      have hm : mantI (signI false + ((1075 - (53 - (n : Int))) * 4503599627370496 + (N * pw (53 - (n : Int)) - 4503599627370496))) = N * pw (53 - (n : Int)) := by unfold mantI; rw [c', d, if_neg (by omega), if_neg (by omega)]; omega
      have hp : powI (signI false + ((1075 - (53 - (n : Int))) * 4503599627370496 + (N * pw (53 - (n : Int)) - 4503599627370496))) = (n : Int) - 53 := by unfold powI; rw [c', if_neg (by omega), if_neg (by omega)]; omega
      rw [hm, hp, e, S] at e1
      rw [e1]
      exact H
    · rw [show N = 0 by omega, rnd_zero]
      cases s
      · exact ⟨by decide +kernel, by decide +kernel, by decide +kernel, by decide, by decide +kernel, by decide +kernel, fun c => absurd c (by decide +kernel), fun _ => by decide +kernel, by decide +kernel, by decide +kernel⟩
      · exact ⟨by decide +kernel, by decide +kernel, by decide +kernel, by decide, by decide +kernel, by decide +kernel, fun c => absurd c (by decide +kernel), fun _ => by decide +kernel, by decide +kernel, by decide +kernel⟩
  · rw [show N = 9007199254740992 by omega, show rndI false 9007199254740992 0 = 4845873199050653696 by decide +kernel]
    cases s
    · exact ⟨by decide +kernel, by decide +kernel, by decide +kernel, by decide, by decide +kernel, by decide +kernel, fun _ => by decide +kernel, fun c => absurd c (by decide +kernel), by decide +kernel, by decide +kernel⟩
    · exact ⟨by decide +kernel, by decide +kernel, by decide +kernel, by decide, by decide +kernel, by decide +kernel, fun _ => by decide +kernel, fun c => absurd c (by decide +kernel), by decide +kernel, by decide +kernel⟩
/-- A finite number without places holds its whole part. -/
theorem holds_big {x : Int} (h : Word x) (hk : kindI x < 3) (hp : 0 ≤ powI x) : Holds x (wholI x) (negB x) := by
  have hf := fin_of_kind h hk
  obtain ⟨a, b, c, d, e⟩ := abs_parts x h
  have e0 : expI x ≠ 0 := fun z => by unfold powI at hp; rw [z] at hp; simp at hp
  have hm : mantI x = 4503599627370496 + fracI x := by unfold mantI; rw [if_neg hf, if_neg e0]
  have hq : powI x = expI x - 1075 := by unfold powI; rw [if_neg hf, if_neg e0]
  have hw : wholI x = mantI x * pw (powI x) := by unfold wholI; rw [if_pos hp]
  have m0 : 4503599627370496 ≤ mantI x := by omega
  have m1 : mantI x < 9007199254740992 := by omega
  have ha : absI x = (powI x + 1075) * 4503599627370496 + (mantI x - 4503599627370496) := by rw [a]; omega
  obtain ⟨m, em⟩ : ∃ z, mantI x = z := ⟨_, rfl⟩
  obtain ⟨p, ep⟩ : ∃ z, powI x = z := ⟨_, rfl⟩
  rw [em] at hm hw m0 m1 ha
  rw [ep] at hp hq hw ha
  have P := pw_pos p
  have lo : p ≤ 10 → m * pw p < 9223372036854775808 := fun c => by
    have k := pw_mono hp c
    rw [show pw 10 = 1024 from rfl] at k
    have := Int.mul_le_mul_of_nonneg_left k (show 0 ≤ m by omega)
    omega
  have hi : 11 ≤ p → m * 2048 ≤ m * pw p := fun c => by
    have k := pw_mono (by decide) c
    rw [show pw 11 = 2048 from rfl] at k
    exact Int.mul_le_mul_of_nonneg_left k (show 0 ≤ m by omega)
  have h2 : 12 ≤ p → m * 4096 ≤ m * pw p := fun c => by
    have k := pw_mono (by decide) c
    rw [show pw 12 = 4096 from rfl] at k
    exact Int.mul_le_mul_of_nonneg_left k (show 0 ≤ m by omega)
  have h11 : p = 11 → m * pw p = m * 2048 := fun c => by rw [c]; rfl
  have n0 : 0 ≤ m * pw p := Int.mul_nonneg (by omega) (Int.le_of_lt P)
  refine ⟨h, hk, rfl, by omega, ?_, ?_, ?_, ?_, rfl, ?_⟩
  · rw [ha, hw]
    rcases Int.lt_or_le 10 p with c | c
    · have := hi c; omega
    · have := lo c; omega
  · rw [ha, hw]
    rcases Int.lt_or_le 11 p with c | c
    · have := h2 c; omega
    · rcases Int.lt_or_le 10 p with c | c
      · have := h11 (by omega); omega
      · have := lo c; omega
  · intro _
    rw [em, ep]
    refine ⟨hw, fun z => ?_⟩
    rcases Int.lt_or_le 10 p with c | c
    · have := hi c; omega
    · exact c
  · intro z; omega
  · unfold leftI; rw [ep, if_pos (by omega)]
/-- What a finite number is rounded to holds the whole number. -/
theorem holds_whole {x : Int} (y : Int) (h : Word x) (hk : kindI x < 3) : Holds (wholeV y x) (natX y x) (negB x) := by
  obtain ⟨b0, b1⟩ := whol_bd h
  by_cases c : 0 ≤ powI x
  · have l0 : leftI x = 0 := by unfold leftI; rw [if_pos c]
    have u : upX y x = false := by unfold upX; rw [l0]; rfl
    rw [whole_exact h hk l0]
    unfold natX
    rw [u, if_neg (by simp), Int.add_zero]
    exact holds_big h hk c
  · have : 0 ≤ natX y x ∧ natX y x ≤ 9007199254740992 := by
      have := b1 (by omega)
      unfold natX; split <;> omega
    have e : wholeV y x = rndI (negB x) (natX y x) 0 := by unfold wholeV; rw [if_neg (by omega)]; rfl
    rw [e]
    exact holds_small _ this.1 this.2
end Go.Proofs.Ytomeidbigofnaaa
