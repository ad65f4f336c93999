import Derived.Test.YtnefacnceemklaaDoorX1
import Derived.Deep.DeepCutAuto
import Derived.Deep.CutBlock
/-
  Rounding, over whole numbers of any size: what is exact, what is scaled, what is left to a last bit.
-/
namespace Go.Proofs.YtnefacnceemklaaDoor
open Go.RowKit Go.Shelf

/-- How many bits a number has. -/
def blen (v : Int) : Nat := if v ≤ 0 then 0 else v.toNat.log2 + 1
theorem blen_bits {v : Int} (h : 0 ≤ v) : Bits v (blen v) := by
  unfold blen
  by_cases c : v ≤ 0
  · rw [if_pos c]; exact ⟨h, by show v < 1; omega, fun hz => by omega⟩
  · rw [if_neg c]
    obtain ⟨n, rfl⟩ := Int.eq_ofNat_of_zero_le h
    have a := Nat.log2_self_le (n := n) (by omega)
    have b := Nat.lt_log2_self (n := n)
    rw [Int.toNat_natCast]
    refine ⟨h, ?_, fun _ => ?_⟩
    · show (n : Int) < ((2 ^ (n.log2 + 1) : Nat) : Int)
      exact_mod_cast b
    · show ((2 ^ (n.log2 + 1) : Nat) : Int) ≤ 2 * (n : Int)
      rw [Nat.pow_succ]; generalize 2 ^ n.log2 = q at *; omega
theorem bits_unique {v : Int} {n m : Nat} (hz : v ≠ 0) (h1 : Bits v n) (h2 : Bits v m) : n = m := len_unique h1.lt (h1.ge hz) h2.lt (h2.ge hz)
theorem blen_of {v : Int} {n : Nat} (hz : v ≠ 0) (h : Bits v n) : blen v = n := bits_unique hz (blen_bits h.v0) h
theorem mul_ne {v k : Int} (hv : 0 ≤ v) (hz : v ≠ 0) : v * pw k ≠ 0 := by
  have := Int.mul_pos (show 0 < v by omega) (pw_pos k); omega
theorem bits_scale {v k : Int} {n : Nat} (hk : 0 ≤ k) (h : Bits v n) : v ≠ 0 → Bits (v * pw k) (n + k.toNat) := by
  intro hz
  have e : ((n + k.toNat : Nat) : Int) = (n : Int) + k := by omega
  refine ⟨Int.mul_nonneg h.v0 (Int.le_of_lt (pw_pos _)), ?_, fun _ => ?_⟩
  · rw [e, pw_add _ _ (by omega) hk]; exact Int.mul_lt_mul_of_pos_right h.lt (pw_pos _)
  · rw [e, pw_add _ _ (by omega) hk, ← Int.mul_assoc]; exact Int.mul_le_mul_of_nonneg_right (h.ge hz) (Int.le_of_lt (pw_pos _))

/-- The nearest number to v times 2^e. -/
def rndI (neg : Bool) (v e : Int) : Int := joinV neg v e (blen v) false

theorem packV_scale (v c k : Int) (hk : 0 ≤ k) : packV (v * pw k) (c + k) false = packV v c false := by
  unfold packV
  by_cases c1 : c ≤ 0
  · rw [if_pos c1]
    by_cases c2 : c + k ≤ 0
    · rw [if_pos c2, Int.mul_assoc, ← pw_add _ _ hk (by omega)]; congr 2; omega
    · rw [if_neg c2, round_eq _ _ _ (by omega)]
      have e : v * pw k = v * pw (-c) * pw (c + k) := by rw [Int.mul_assoc, ← pw_add _ _ (by omega) (by omega)]; congr 2; omega
      have hp := pw_pos (c + k - 1)
      rw [e, Int.mul_emod_left, if_neg (by omega), Int.mul_ediv_cancel _ (Int.ne_of_gt (pw_pos _))]
  · rw [if_neg c1, if_neg (by omega)]
    have := round_top (v * pw k) k c false false hk (by omega) (by simp [Int.mul_emod_left])
    rw [Int.mul_ediv_cancel _ (Int.ne_of_gt (pw_pos _))] at this
    exact this.symm

theorem rnd_scale (neg : Bool) {v k : Int} (e : Int) (hv : 0 ≤ v) (hk : 0 ≤ k) : rndI neg (v * pw k) e = rndI neg v (e + k) := by
  unfold rndI
  by_cases hz : v = 0
  · subst hz; rw [Int.zero_mul]; unfold joinV; rw [if_pos (.inl rfl), if_pos (.inl rfl)]
  have hb := blen_bits hv
  rw [blen_of (mul_ne hv hz) (bits_scale hk hb hz)]
  generalize blen v = n at *
  have hn : 1 ≤ n := by
    rcases Nat.eq_zero_or_pos n with h | h
    · subst h; have := hb.lt; rw [show pw ((0 : Nat) : Int) = 1 from rfl] at this; omega
    · exact h
  have en : ((n + k.toNat : Nat) : Int) = (n : Int) + k := by omega
  have hm := mul_ne (k := k) hv hz
  unfold joinV
  rw [en]
  by_cases c1 : e + k < -2148 - (n : Int)
  · have d1 : e < -2148 - ((n : Int) + k) := by omega
    rw [if_pos (.inr d1), if_pos (.inr c1)]
  · have d1 : ¬(v * pw k = 0 ∨ e < -2148 - ((n : Int) + k)) := by omega
    have d2 : ¬(v = 0 ∨ e + k < -2148 - (n : Int)) := by omega
    rw [if_neg d1, if_neg d2]
    by_cases c2 : 1024 < e + k + (n : Int)
    · have d3 : 1024 < e ∨ 1024 < e + ((n : Int) + k) := by omega
      have d4 : 1024 < e + k ∨ 1024 < e + k + (n : Int) := by omega
      rw [if_pos d3, if_pos d4]
    · have d3 : ¬(1024 < e ∨ 1024 < e + ((n : Int) + k)) := by omega
      have d4 : ¬(1024 < e + k ∨ 1024 < e + k + (n : Int)) := by omega
      rw [if_neg d3, if_neg d4]
      have ep : placeI e ((n : Int) + k) = placeI (e + k) n := by unfold placeI; congr 1; omega
      rw [ep, show placeI (e + k) n - e = (placeI (e + k) n - (e + k)) + k by omega, packV_scale _ _ _ hk]

theorem bits_div {v d : Int} {n : Nat} (hd : 0 ≤ d) (hv : 0 ≤ v) (hz : v / pw d ≠ 0) (h : Bits (v / pw d) n) : Bits v (n + d.toNat) := by
  have e : ((n + d.toNat : Nat) : Int) = (n : Int) + d := by omega
  have hp := pw_pos d
  refine ⟨hv, ?_, fun _ => ?_⟩
  · rw [e, pw_add _ _ (by omega) hd]
    have a := h.lt
    have b := Int.lt_mul_ediv_self_add (x := v) (k := pw d) hp
    have c := Int.mul_le_mul_of_nonneg_right (show v / pw d + 1 ≤ pw (n : Int) by omega) (Int.le_of_lt hp)
    rw [Int.add_mul, Int.mul_comm (v / pw d)] at c
    omega
  · rw [e, pw_add _ _ (by omega) hd]
    have a := h.ge hz
    have b := Int.mul_ediv_add_emod v (pw d)
    have b0 := Int.emod_nonneg v (Int.ne_of_gt hp)
    have c := Int.mul_le_mul_of_nonneg_right a (Int.le_of_lt hp)
    rw [Int.mul_assoc, Int.mul_comm (v / pw d)] at c
    omega

theorem rnd_sticky (neg : Bool) {v d : Int} (e : Int) (lost : Bool) (hv : 0 ≤ v) (hd : 0 ≤ d) (hb : d = 0 ∨ pw 60 ≤ v / pw d) (hl : lost = false ↔ v % pw d = 0) :
    joinV neg (v / pw d) (e + d) (blen (v / pw d)) lost = rndI neg v e := by
  unfold rndI
  by_cases hd0 : d = 0
  · subst hd0
    have : v % pw 0 = 0 := by rw [show pw 0 = 1 from rfl]; omega
    rw [hl.2 this, show pw 0 = 1 from rfl, Int.ediv_one, Int.add_zero]
  have hb : pw 60 ≤ v / pw d := by omega
  have hz : v / pw d ≠ 0 := by have := pw_pos 60; omega
  have hvz : v ≠ 0 := fun h => by rw [h, Int.zero_ediv] at hz; exact hz rfl
  have hB := blen_bits (v := v / pw d) (by have := pw_pos 60; omega)
  rw [blen_of hvz (bits_div hd hv hz hB)]
  have hn : 60 < blen (v / pw d) := by
    have := pw_lt_of (by decide) (by omega) (show pw 60 < pw (blen (v / pw d) : Int) by have := hB.lt; omega)
    omega
  generalize blen (v / pw d) = n at *
  have en : ((n + d.toNat : Nat) : Int) = (n : Int) + d := by omega
  unfold joinV
  rw [en]
  by_cases c1 : e + d < -2148 - (n : Int)
  · have d1 : e < -2148 - ((n : Int) + d) := by omega
    rw [if_pos (.inr c1), if_pos (.inr d1)]
  · have d1 : ¬(v = 0 ∨ e < -2148 - ((n : Int) + d)) := by omega
    have d2 : ¬(v / pw d = 0 ∨ e + d < -2148 - (n : Int)) := by omega
    rw [if_neg d2, if_neg d1]
    by_cases c2 : 1024 < e + d + (n : Int)
    · have d3 : 1024 < e ∨ 1024 < e + ((n : Int) + d) := by omega
      have d4 : 1024 < e + d ∨ 1024 < e + d + (n : Int) := by omega
      rw [if_pos d4, if_pos d3]
    · have d3 : ¬(1024 < e ∨ 1024 < e + ((n : Int) + d)) := by omega
      have d4 : ¬(1024 < e + d ∨ 1024 < e + d + (n : Int)) := by omega
      rw [if_neg d4, if_neg d3]
      have ep : placeI e ((n : Int) + d) = placeI (e + d) n := by unfold placeI; congr 1; omega
      have c3 : 1 ≤ placeI (e + d) n - (e + d) := by unfold placeI; omega
      rw [ep]
      unfold packV
      rw [if_neg (by omega), if_neg (by omega)]
      have := round_top v d (placeI (e + d) n - (e + d)) false lost hd c3 hl
      rw [Bool.false_or] at this
      rw [this]
      congr 3; omega

theorem rnd_mono {a b : Int} (e : Int) (ha : 0 ≤ a) (h : a ≤ b) : rndI false a e ≤ rndI false b e :=
  joinV_mono (blen_bits ha) (blen_bits (by omega)) h (fun c => pack_mono c h)
theorem rnd_bd (e : Int) {a : Int} (ha : 0 ≤ a) : 0 ≤ rndI false a e ∧ rndI false a e ≤ 9218868437227405312 := joinV_bd false (blen_bits ha)
theorem rnd_sign (v e : Int) : rndI true v e = rndI false v e + 9223372036854775808 := by
  unfold rndI joinV signI
  simp only [Bool.false_eq_true, if_false, if_true]
  split
  · omega
  · split <;> omega
theorem rnd_neg (neg : Bool) (v e : Int) : rndI neg v e = signI neg + rndI false v e := by
  cases neg
  · unfold signI; simp
  · rw [rnd_sign]; unfold signI; simp; omega
theorem rnd_zero (neg : Bool) (e : Int) : rndI neg 0 e = signI neg := by unfold rndI joinV; rw [if_pos (.inl rfl)]

/-! ### What a number is: an int times 2^-1074 -/
def XI (x : Int) : Int := mantI x * pw (powI x + 1074)
theorem mant_bd (x : Int) (h : Word x) : 0 ≤ mantI x ∧ mantI x < 9007199254740992 ∧ -1074 ≤ powI x ∧ powI x ≤ 971 := by
  obtain ⟨_, a, b, c, d⟩ := abs_parts x h
  unfold mantI powI
  repeat' split
  all_goals omega
theorem XI_nonneg (x : Int) (h : Word x) : 0 ≤ XI x := Int.mul_nonneg (mant_bd x h).1 (Int.le_of_lt (pw_pos _))
theorem pack_zero (v : Int) : packV v 0 false = v := by unfold packV; rw [if_pos (by decide), show pw (-0) = 1 from rfl]; omega
theorem mant_self (x : Int) (h : Word x) (hf : expI x ≠ 2047) : rndI false (mantI x) (powI x) = absI x := by
  obtain ⟨ea, a, b, c, d⟩ := abs_parts x h
  unfold rndI
  by_cases he : expI x = 0
  · have em : mantI x = fracI x := by unfold mantI; rw [if_neg hf, if_pos he]
    have ep : powI x = -1074 := by unfold powI; rw [if_neg hf, if_pos he]
    rw [em, ep, ea, he]
    by_cases hz : fracI x = 0
    · rw [hz]; unfold joinV; rw [if_pos (.inl rfl)]; rfl
    · have hb := blen_bits c
      have hn : blen (fracI x) ≤ 52 := by
        have h2 := hb.ge hz
        have := pw_lt_of (a := (blen (fracI x) : Int)) (b := 53) (by omega) (by decide) (by rw [show pw 53 = 9007199254740992 from rfl]; omega)
        omega
      generalize blen (fracI x) = n at *
      unfold joinV
      rw [if_neg (by omega), if_neg (by omega)]
      have : placeI (-1074) n = -1074 := by unfold placeI; omega
      rw [this, show (-1074 : Int) - -1074 = 0 by decide, pack_zero]
      unfold signI; simp
  · have em : mantI x = 4503599627370496 + fracI x := by unfold mantI; rw [if_neg hf, if_neg he]
    have ep : powI x = expI x - 1075 := by unfold powI; rw [if_neg hf, if_neg he]
    rw [em, ep, ea]
    have hb : Bits (4503599627370496 + fracI x) 53 := ⟨by omega, by rw [show pw ((53 : Nat) : Int) = 9007199254740992 from rfl]; omega, fun _ => by rw [show pw ((53 : Nat) : Int) = 9007199254740992 from rfl]; omega⟩
    rw [blen_of (by omega) hb]
    unfold joinV
    rw [if_neg (by omega), if_neg (by omega)]
    have : placeI (expI x - 1075) ((53 : Nat) : Int) = expI x - 1075 := by unfold placeI; omega
    rw [this, show (expI x - 1075) - (expI x - 1075) = 0 by omega, pack_zero]
    unfold signI; simp; omega
theorem rnd_self (x : Int) (h : Word x) (hf : expI x ≠ 2047) : rndI false (XI x) (-1074) = absI x := by
  have := mant_bd x h
  unfold XI
  rw [rnd_scale false (-1074) this.1 (by omega), show -1074 + (powI x + 1074) = powI x by omega]
  exact mant_self x h hf
theorem XI_lt {x y : Int} (h1 : Word x) (h2 : Word y) (f1 : expI x ≠ 2047) (f2 : expI y ≠ 2047) (h : absI x < absI y) : XI x < XI y := by
  rcases Int.lt_or_le (XI x) (XI y) with c | c
  · exact c
  · have := rnd_mono (-1074) (XI_nonneg y h2) c
    rw [rnd_self x h1 f1, rnd_self y h2 f2] at this; omega
theorem XI_abs {x y : Int} (h1 : Word x) (h2 : Word y) (h : absI x = absI y) : XI x = XI y ∧ mantI x = mantI y ∧ powI x = powI y := by
  obtain ⟨ea, a, b, c, d⟩ := abs_parts x h1
  obtain ⟨ea', a', b', c', d'⟩ := abs_parts y h2
  have e1 : expI x = expI y := by omega
  have e2 : fracI x = fracI y := by omega
  have e3 : mantI x = mantI y := by unfold mantI; rw [e1, e2]
  have e4 : powI x = powI y := by unfold powI; rw [e1]
  exact ⟨by unfold XI; rw [e3, e4], e3, e4⟩
theorem XI_le {x y : Int} (h1 : Word x) (h2 : Word y) (f1 : expI x ≠ 2047) (f2 : expI y ≠ 2047) (h : absI x ≤ absI y) : XI x ≤ XI y := by
  rcases Int.lt_or_eq_of_le h with h | h
  · exact Int.le_of_lt (XI_lt h1 h2 f1 f2 h)
  · rw [(XI_abs h1 h2 h).1]; omega
theorem XI_le_iff {x y : Int} (h1 : Word x) (h2 : Word y) (f1 : expI x ≠ 2047) (f2 : expI y ≠ 2047) : XI x ≤ XI y ↔ absI x ≤ absI y := by
  constructor
  · intro h
    rcases Int.lt_or_le (absI y) (absI x) with c | c
    · have := XI_lt h2 h1 f2 f1 c; omega
    · exact c
  · exact XI_le h1 h2 f1 f2
theorem XI_inj {x y : Int} (h1 : Word x) (h2 : Word y) (f1 : expI x ≠ 2047) (f2 : expI y ≠ 2047) (h : XI x = XI y) : absI x = absI y := by
  have a := (XI_le_iff h1 h2 f1 f2).1 (by omega)
  have b := (XI_le_iff h2 h1 f2 f1).1 (by omega)
  omega
theorem mant_zero (x : Int) (h : Word x) (hf : expI x ≠ 2047) : mantI x = 0 ↔ absI x = 0 := by
  obtain ⟨ea, a, b, c, d⟩ := abs_parts x h
  unfold mantI
  rw [if_neg hf]
  split <;> omega
theorem XI_zero (x : Int) (h : Word x) (hf : expI x ≠ 2047) : XI x = 0 ↔ absI x = 0 := by
  rw [← mant_zero x h hf]
  unfold XI
  constructor
  · intro e; rcases Int.mul_eq_zero.1 e with e | e
    · exact e
    · have := pw_pos (powI x + 1074); omega
  · intro e; rw [e, Int.zero_mul]
theorem abs_mant {x y : Int} (h1 : Word x) (h2 : Word y) (f1 : expI x ≠ 2047) (_f2 : expI y ≠ 2047) (h : absI y ≤ absI x) : powI y ≤ powI x := by
  obtain ⟨ea, a, b, c, d⟩ := abs_parts x h1
  obtain ⟨ea', a', b', c', d'⟩ := abs_parts y h2
  unfold powI
  repeat' split
  all_goals omega
theorem fin_of_kind {x : Int} (h : Word x) (hk : kindI x < 3) : expI x ≠ 2047 := by
  rw [kind_parts x h] at hk
  intro e
  rw [if_pos e] at hk
  split at hk <;> omega
theorem kind_of_fin {x : Int} (h : Word x) (hf : expI x ≠ 2047) : kindI x < 3 := by
  rw [kind_parts x h, if_neg hf]
  repeat' split
  all_goals omega
theorem nz_of_kind {x : Int} (h : Word x) (_hk : kindI x < 3) (h0 : kindI x ≠ 0) : absI x ≠ 0 := by
  obtain ⟨ea, a, b, c, d⟩ := abs_parts x h
  intro e
  apply h0
  rw [kind_parts x h]
  have e1 : expI x = 0 := by omega
  have e2 : fracI x = 0 := by omega
  rw [e1, e2]; rfl
end Go.Proofs.YtnefacnceemklaaDoor

/-
  The sum of two finite numbers that are no zeros: walked.
-/
namespace Go.Proofs.YtnefacnceemklaaDoor
open Go.RowKit Go.Shelf

/-- A number with its sign, as an int times 2^-1074; and the number nearest to such an int. -/
def sX (x : Int) : Int := if negB x = true then -XI x else XI x
def R (s : Int) : Int := if s = 0 then 0 else rndI (decide (s < 0)) (if s < 0 then -s else s) (-1074)

theorem join_at {neg more : Bool} {v e : Int} {n : Nat} (hv : Bits v n) : ∀ (w : World) (en : Ending) (w' : World), JoinPost neg v e more w en w' → en = .returned (.int .u64 (joinV neg v e n more)) ∧ Below w.heap.size w w' := by
  intro w en w' h
  obtain ⟨m, hm, h1, h2, rfl, hb⟩ := join_full hv.v0 h
  refine ⟨?_, hb⟩
  by_cases hz : v = 0
  · unfold joinV; rw [if_pos (.inl hz), if_pos (.inl hz)]
  · have := len_unique h1 (h2 hz) hv.lt (hv.ge hz)
    rw [this, Int.toNat_natCast]

theorem sum_val (neg : Bool) {mp mq ep eq D up d : Int} (h1 : 1 ≤ mp) (h2 : 0 ≤ mq) (he : -1074 ≤ eq) (hD : D = ep - eq) (h0 : 0 ≤ D) (hup : up = min D 70) (hd : d = D - up) :
    joinV neg (mp * pw up + mq / pw d) (ep - up) (blen (mp * pw up + mq / pw d)) (mq % pw d != 0) = rndI neg (mp * pw (ep + 1074) + mq * pw (eq + 1074)) (-1074) := by
  have hP := pw_pos d
  have eE : (mq + mp * pw up * pw d) * pw (eq + 1074) = mp * pw (ep + 1074) + mq * pw (eq + 1074) := by
    rw [Int.add_mul, Int.mul_assoc, ← pw_add _ _ (by omega) (by omega), Int.mul_assoc, ← pw_add _ _ (by omega) (by omega), Int.add_comm]
    congr 3; omega
  have e1 : (mq + mp * pw up * pw d) / pw d = mq / pw d + mp * pw up := Int.add_mul_ediv_right _ _ (Int.ne_of_gt hP)
  have e2 : (mq + mp * pw up * pw d) % pw d = mq % pw d := Int.add_mul_emod_self_right _ _ _
  have hg : pw up ≤ mp * pw up := by
    have := Int.mul_le_mul_of_nonneg_right h1 (Int.le_of_lt (pw_pos up)); rw [Int.one_mul] at this; exact this
  have hq := Int.ediv_nonneg h2 (Int.le_of_lt hP)
  have hE : 0 ≤ mq + mp * pw up * pw d := Int.add_nonneg h2 (Int.mul_nonneg (by have := pw_pos up; omega) (Int.le_of_lt hP))
  rw [← eE, rnd_scale neg (-1074) hE (by omega), show -1074 + (eq + 1074) = eq by omega]
  have := rnd_sticky neg (v := mq + mp * pw up * pw d) (d := d) eq (mq % pw d != 0) hE (by omega) ?_ (by rw [e2]; simp)
  · rw [← this, e1, Int.add_comm (mq / pw d), show eq + d = ep - up by omega]
  · by_cases c : d = 0
    · exact .inl c
    · right
      have : up = 70 := by omega
      rw [e1]; rw [this] at hg ⊢
      have : pw 60 ≤ pw 70 := pow_lt (by decide) (by decide)
      omega

theorem diff_parts {G m P : Int} (hP : 0 < P) : (G * P - m) / P = G - m / P - (if m % P = 0 then 0 else 1) ∧ ((G * P - m) % P = 0 ↔ m % P = 0) := by
  have e := Int.mul_ediv_add_emod m P
  have r0 := Int.emod_nonneg m (Int.ne_of_gt hP)
  have r1 := Int.emod_lt_of_pos m hP
  by_cases c : m % P = 0
  · have : G * P - m = 0 + (G - m / P) * P := by rw [Int.sub_mul, Int.mul_comm (m / P)]; omega
    rw [this, Int.add_mul_ediv_right _ _ (Int.ne_of_gt hP), Int.add_mul_emod_self_right, if_pos c]
    simp [c]
  · have : G * P - m = (P - m % P) + (G - m / P - 1) * P := by rw [Int.sub_mul, Int.sub_mul, Int.mul_comm (m / P)]; omega
    rw [this, Int.add_mul_ediv_right _ _ (Int.ne_of_gt hP), Int.add_mul_emod_self_right, if_neg c]
    have a : (P - m % P) / P = 0 := Int.ediv_eq_zero_of_lt (by omega) (by omega)
    have b : (P - m % P) % P = P - m % P := Int.emod_eq_of_lt (by omega) (by omega)
    rw [a, b]
    exact ⟨by omega, by constructor <;> intro h <;> omega⟩

theorem diff_val (neg : Bool) {mp mq ep eq D up d : Int} (h1 : 1 ≤ mp) (h2 : 0 ≤ mq) (hq2 : mq < 9007199254740992) (he : -1074 ≤ eq) (hD : D = ep - eq) (h0 : 0 ≤ D) (hup : up = min D 70) (hd : d = D - up)
    (hle : mq * pw (eq + 1074) ≤ mp * pw (ep + 1074)) :
    0 ≤ mp * pw up - mq / pw d - (if mq % pw d = 0 then 0 else 1) ∧
    joinV neg (mp * pw up - mq / pw d - (if mq % pw d = 0 then 0 else 1)) (ep - up) (blen (mp * pw up - mq / pw d - (if mq % pw d = 0 then 0 else 1))) (mq % pw d != 0) = rndI neg (mp * pw (ep + 1074) - mq * pw (eq + 1074)) (-1074) ∧
    (mp * pw up - mq / pw d = 0 ↔ mp * pw (ep + 1074) = mq * pw (eq + 1074)) := by
  have hP := pw_pos d
  obtain ⟨e1, e2⟩ := diff_parts (G := mp * pw up) (m := mq) hP
  have eE : (mp * pw up * pw d - mq) * pw (eq + 1074) = mp * pw (ep + 1074) - mq * pw (eq + 1074) := by
    rw [Int.sub_mul, Int.mul_assoc, ← pw_add _ _ (by omega) (by omega), Int.mul_assoc, ← pw_add _ _ (by omega) (by omega)]
    congr 3; omega
  have hk := pw_pos (eq + 1074)
  have hE : 0 ≤ mp * pw up * pw d - mq := by
    rcases Int.lt_or_le (mp * pw up * pw d - mq) 0 with c | c
    · have := Int.mul_neg_of_neg_of_pos c hk; omega
    · exact c
  have hg : pw up ≤ mp * pw up := by
    have := Int.mul_le_mul_of_nonneg_right h1 (Int.le_of_lt (pw_pos up)); rw [Int.one_mul] at this; exact this
  have hq := Int.ediv_nonneg h2 (Int.le_of_lt hP)
  have hq3 : mq / pw d ≤ mq := Int.ediv_le_self _ h2
  have hbig : d = 0 ∨ pw 60 + 1 ≤ mp * pw up - mq / pw d - (if mq % pw d = 0 then 0 else 1) := by
    by_cases c : d = 0
    · exact .inl c
    · right
      have : up = 70 := by omega
      rw [this] at hg ⊢
      have e70 : pw 70 = 1180591620717411303424 := rfl
      have e60 : pw 60 = 1152921504606846976 := rfl
      rw [e70] at hg ⊢
      rw [e60]
      split <;> omega
  refine ⟨by rw [← e1]; exact Int.ediv_nonneg hE (Int.le_of_lt hP), ?_, ?_⟩
  · rw [← eE, rnd_scale neg (-1074) hE (by omega), show -1074 + (eq + 1074) = eq by omega]
    have := rnd_sticky neg (v := mp * pw up * pw d - mq) (d := d) eq (mq % pw d != 0) hE (by omega) (by rw [e1]; omega) (by rw [e2]; simp)
    rw [← this, e1, show eq + d = ep - up by omega]
  · have : mp * pw (ep + 1074) = mq * pw (eq + 1074) ↔ mp * pw up * pw d - mq = 0 := by
      constructor
      · intro h
        have : (mp * pw up * pw d - mq) * pw (eq + 1074) = 0 := by rw [eE]; omega
        rcases Int.mul_eq_zero.1 this with h | h
        · exact h
        · omega
      · intro h; rw [h, Int.zero_mul] at eE; omega
    rw [this]
    constructor
    · intro h
      rcases hbig with c | c
      · subst c
        rw [show pw 0 = 1 from rfl] at h ⊢
        rw [Int.ediv_one] at h; omega
      · exfalso
        have := pw_pos 60
        rw [h] at c
        split at c <;> omega
    · intro h
      rw [h, Int.zero_ediv] at e1
      rw [h, Int.zero_emod] at e2
      rw [if_pos (e2.1 rfl)] at e1
      omega
end Go.Proofs.YtnefacnceemklaaDoor

/-
  The sum of two finite numbers that are no zeros: walked.
-/
namespace Go.Proofs.YtnefacnceemklaaDoor
open Go.RowKit Go.Shelf

theorem right_fin {x : Int} (h : Word x) (hf : expI x ≠ 2047) : rightI x = x := by
  have := kind_of_fin h hf
  unfold rightI; rw [if_neg (by omega)]
theorem abs_fin (x r : Int) (h : Word x) (hf : expI x ≠ 2047) (hr : absI x = r) (w : World) : Calls Tryd.prog 55 #[.int .u64 x] w fun e w' => e = .returned (.int .u64 r) ∧ w = w' := by
  have := abs_any x h w
  rw [right_fin h hf, hr] at this; exact this
theorem split_vars (x m p : Int) (s : Bool) (h : Word x) (hs : negB x = s) (hm : mantI x = m) (hp : powI x = p) (w : World) : Calls Tryd.prog 56 #[.int .u64 x] w fun e w' => e = .returned (.tuple #[.bool s, .int .u64 m, .int .i64 p]) ∧ w = w' := by
  subst hs hm hp; exact split_any x h w
theorem ShrPost.at {v p r s : Int} {o : Bool} (h1 : Word r) (h2 : Word s) (hv : val r s = v / p) (ho : o = (v % p != 0)) : ∀ (w : World) (e : Ending) (w' : World), ShrPost v p w e w' → e = .returned (.tuple #[.agg #[.int .u64 r, .int .u64 s], .bool o]) ∧ Below w.heap.size w w' := by
  rintro w e w' ⟨a, b, o', rfl, h3, h4, h, h5, hb⟩
  obtain ⟨rfl, rfl⟩ := val_inj h1 h2 h3 h4 (hv.trans h.symm)
  refine ⟨?_, hb⟩
  have : o' = o := by
    rw [ho]
    by_cases c : v % p = 0
    · rw [h5.2 c]; simp [c]
    · cases o'
      · exact absurd (h5.1 rfl) c
      · simp [c]
  rw [this]
theorem AddPost.at {s r t : Int} (h1 : Word r) (h2 : Word t) (hv : val r t = s) : ∀ (w : World) (e : Ending) (w' : World), AddPost s w e w' → e = .returned (.tuple #[.agg #[.int .u64 r, .int .u64 t], .bool false]) ∧ Below w.heap.size w w' := by
  rintro w e w' ⟨a, b, o, rfl, h3, h4, h | h, hb⟩
  · have := val_bd h1 h2; have := val_bd h3 h4; omega
  · obtain ⟨rfl, rfl⟩ := val_inj h1 h2 h3 h4 (hv.trans h.2.symm)
    rw [h.1]; exact ⟨rfl, hb⟩
theorem SubPost.at {s r t : Int} (h1 : Word r) (h2 : Word t) (hv : val r t = s) : ∀ (w : World) (e : Ending) (w' : World), SubPost s w e w' → e = .returned (.tuple #[.agg #[.int .u64 r, .int .u64 t], .bool false]) ∧ Below w.heap.size w w' := by
  rintro w e w' ⟨a, b, o, rfl, h3, h4, h | h, hb⟩
  · have := val_bd h1 h2; have := val_bd h3 h4; omega
  · obtain ⟨rfl, rfl⟩ := val_inj h1 h2 h3 h4 (hv.trans h.2.symm)
    rw [h.1]; exact ⟨rfl, hb⟩

/-- All that the sum of p and q (p is not the lesser one, by its amount) comes to, in words. -/
structure SumAt (p q : Int) (s : Int) (np nq : Bool) (mp mq ep eq up d : Int) (gh gl sh sl : Int) (lost : Bool) : Prop where
  mp0 : 0 ≤ mp
  mp1 : mp < 18446744073709551616
  mq0 : 0 ≤ mq
  mq1 : mq < 18446744073709551616
  ep0 : -1074 ≤ ep
  ep1 : ep ≤ 971
  eq0 : -1074 ≤ eq
  eq1 : eq ≤ ep
  up_eq : up = min (ep - eq) 70
  d_eq : d = ep - up - eq
  g1 : Word gh
  g2 : Word gl
  gv : val gh gl = mp * pw up
  s1 : Word sh
  s2 : Word sl
  sv : val sh sl = mq / pw d
  lo : lost = (mq % pw d != 0)
  same : np = nq → ∃ rh rl, Word rh ∧ Word rl ∧ val rh rl = val gh gl + val sh sl ∧ ∃ n, Bits (val rh rl) n ∧ joinV np (val rh rl) (ep - up) n lost = R s
  zero : np ≠ nq → val gh gl - val sh sl = 0 → R s = 0
  diff : np ≠ nq → val gh gl - val sh sl ≠ 0 → ∃ rh rl th tl, Word rh ∧ Word rl ∧ val rh rl = val gh gl - val sh sl ∧ Word th ∧ Word tl ∧ val th tl = val rh rl - (if lost then 1 else 0) ∧ ∃ n, Bits (val th tl) n ∧ joinV np (val th tl) (ep - up) n lost = R s

theorem sum_at {p q : Int} (h1 : Word p) (h2 : Word q) (f1 : expI p ≠ 2047) (f2 : expI q ≠ 2047) (z1 : absI p ≠ 0) (_z2 : absI q ≠ 0) (hle : absI q ≤ absI p) :
    ∃ up d gh gl sh sl lost, SumAt p q (sX p + sX q) (negB p) (negB q) (mantI p) (mantI q) (powI p) (powI q) up d gh gl sh sl lost := by
  obtain ⟨a1, a2, a3, a4⟩ := mant_bd p h1
  obtain ⟨b1, b2, b3, b4⟩ := mant_bd q h2
  have hpow := abs_mant h1 h2 f1 f2 hle
  have hm : 1 ≤ mantI p := by have := mant_zero p h1 f1; omega
  have hxle := XI_le h2 h1 f2 f1 hle
  have hx0 := XI_nonneg p h1
  have hxz := XI_zero p h1 f1
  have hq0 := XI_nonneg q h2
  obtain ⟨up, hup⟩ : ∃ z, min (powI p - powI q) 70 = z := ⟨_, rfl⟩
  obtain ⟨d, hd⟩ : ∃ z, powI p - up - powI q = z := ⟨_, rfl⟩
  have hg0 : 0 ≤ mantI p * pw up := Int.mul_nonneg a1 (Int.le_of_lt (pw_pos _))
  have hg1 : mantI p * pw up < 340282366920938463463374607431768211456 / 16 := by
    have e53 : pw 53 = 9007199254740992 := rfl
    have e70 : pw 70 = 1180591620717411303424 := rfl
    have := pow_lt (show 0 ≤ up by omega) (show up ≤ 70 by omega)
    have := Int.mul_le_mul (show mantI p ≤ 9007199254740992 by omega) this (Int.le_of_lt (pw_pos _)) (by decide)
    rw [e70] at this
    omega
  have hs0 : 0 ≤ mantI q / pw d := Int.ediv_nonneg b1 (Int.le_of_lt (pw_pos _))
  have hs1 : mantI q / pw d < 9007199254740992 := by have := Int.ediv_le_self (pw d) b1; omega
  obtain ⟨gh, gl, g1, g2, gv⟩ := words (mantI p * pw up) hg0 (by omega)
  obtain ⟨sh, sl, s1, s2, sv⟩ := words (mantI q / pw d) hs0 (by omega)
  have S := sum_val (negB p) (mp := mantI p) (mq := mantI q) (ep := powI p) (eq := powI q) (up := up) (d := d) hm b1 b3 rfl (by omega) hup.symm (by omega)
  obtain ⟨D0, D1, D2⟩ := diff_val (negB p) (mp := mantI p) (mq := mantI q) (ep := powI p) (eq := powI q) (up := up) (d := d) hm b1 b2 b3 rfl (by omega) hup.symm (by omega) hxle
  refine ⟨up, d, gh, gl, sh, sl, _, a1, by omega, b1, by omega, a3, a4, b3, hpow, hup.symm, hd.symm, g1, g2, gv, s1, s2, sv, rfl, ?_, ?_, ?_⟩
  · intro hn
    obtain ⟨rh, rl, r1, r2, rv⟩ := words (mantI p * pw up + mantI q / pw d) (by omega) (by omega)
    refine ⟨rh, rl, r1, r2, by rw [rv, gv, sv], blen (val rh rl), blen_bits (val_bd r1 r2).1, ?_⟩
    rw [rv, S]
    show rndI (negB p) (XI p + XI q) (-1074) = _
    unfold R sX
    rw [← hn]
    cases negB p
    · simp only [Bool.false_eq_true, if_false]
      rw [if_neg (by omega), if_neg (by omega), decide_eq_false (by omega)]
    · simp only [if_true]
      rw [if_neg (by omega), if_pos (by omega), decide_eq_true (by omega)]
      congr 1; omega
  · intro hn h0
    rw [gv, sv] at h0
    have h0 : XI p = XI q := D2.1 h0
    have : sX p + sX q = 0 := by
      unfold sX
      revert hn
      cases negB p <;> cases negB q <;> simp [h0] <;> omega
    rw [this]; rfl
  · intro hn h0
    rw [gv, sv] at h0
    have h0 : XI p ≠ XI q := fun e => h0 (D2.2 e)
    obtain ⟨rh, rl, r1, r2, rv⟩ := words (mantI p * pw up - mantI q / pw d) (by split at D0 <;> omega) (by omega)
    obtain ⟨th, tl, t1, t2, tv⟩ := words (mantI p * pw up - mantI q / pw d - (if mantI q % pw d = 0 then 0 else 1)) D0 (by split <;> omega)
    refine ⟨rh, rl, th, tl, r1, r2, by rw [rv, gv, sv], t1, t2, ?_, blen (val th tl), blen_bits (val_bd t1 t2).1, ?_⟩
    · rw [tv, rv]; by_cases c : mantI q % pw d = 0 <;> simp [c]
    · rw [tv, D1]
      show rndI (negB p) (XI p - XI q) (-1074) = _
      unfold R sX
      revert hn
      cases negB p <;> cases negB q <;> intro hn
      · exact absurd rfl hn
      · simp only [Bool.false_eq_true, if_false, if_true]
        rw [if_neg (by omega), if_neg (by omega), decide_eq_false (by omega)]
        congr 1
      · simp only [Bool.false_eq_true, if_false, if_true]
        rw [if_neg (by omega), if_pos (by omega), decide_eq_true (by omega)]
        congr 1; omega
      · exact absurd rfl hn
end Go.Proofs.YtnefacnceemklaaDoor

/-
  The sum of two finite numbers that are no zeros: the walk.
-/
namespace Go.Proofs.YtnefacnceemklaaDoor
open Go.RowKit Go.Shelf

theorem join_word {np : Bool} {h l e : Int} {n : Nat} {lost : Bool} {r : Int} (h1 : Word h) (h2 : Word l) (he0 : -9223372036854775808 ≤ e) (he1 : e ≤ 9223372036854775807) (hb : Bits (val h l) n) (hr : joinV np (val h l) e n lost = r) (w : World) :
    Calls Tryd.prog 37 #[.bool np, .agg #[.int .u64 h, .int .u64 l], .int .i64 e, .bool lost] w (WordPost r w) := by
  rw [← hr]; exact (join_any np h l e lost h1 h2 he0 he1 w).mono (join_at hb w)

set_option maxRecDepth 100000 in
set_option maxHeartbeats 4000000 in
theorem added_any (a b : Int) (h1 : Word a) (h2 : Word b) (f1 : expI a ≠ 2047) (f2 : expI b ≠ 2047) (z1 : absI a ≠ 0) (z2 : absI b ≠ 0) (w : World) :
    Calls Tryd.prog 60 #[.int .u64 a, .int .u64 b] w (WordPost (R (sX a + sX b)) w) := by
  obtain ⟨ra, hra⟩ : ∃ z, absI a = z := ⟨_, rfl⟩
  obtain ⟨rb, hrb⟩ : ∃ z, absI b = z := ⟨_, rfl⟩
  have HA := Lib.hid (fun w => abs_fin a ra h1 f1 hra w)
  have HB := Lib.hid (fun w => abs_fin b rb h2 f2 hrb w)
  have base : Hid (∃ p q, (p = a ∧ q = b ∨ p = b ∧ q = a) ∧ True) := ⟨a, b, .inl ⟨rfl, rfl⟩, trivial⟩
  have Hs : Hid (∀ p q : Int, (p = a ∧ q = b ∧ rb ≤ ra) ∨ (p = b ∧ q = a ∧ ra < rb) → ∃ up d gh gl sh sl lost, SumAt p q (sX a + sX b) (negB p) (negB q) (mantI p) (mantI q) (powI p) (powI q) up d gh gl sh sl lost ∧ Word p ∧ Word q) := by
    rintro p q (⟨rfl, rfl, h⟩ | ⟨rfl, rfl, h⟩)
    · obtain ⟨up, d, gh, gl, sh, sl, lost, S⟩ := sum_at h1 h2 f1 f2 z1 z2 (by omega)
      exact ⟨up, d, gh, gl, sh, sl, lost, S, h1, h2⟩
    · obtain ⟨up, d, gh, gl, sh, sl, lost, S⟩ := sum_at h2 h1 f2 f1 z2 z1 (by omega)
      rw [Int.add_comm] at S
      exact ⟨up, d, gh, gl, sh, sl, lost, S, h2, h1⟩
  clear base h1 h2 f1 f2 z1 z2 hra hrb
  generalize sX a + sX b = s0 at *
  go_enter Tryd.func60, Tryd.ntmps60
  go_wp2_with fail
  refine (HA.out _).mono ?_
  rintro en w1 ⟨rfl, rfl⟩
  go_wp2_with fail
  refine (HB.out _).mono ?_
  rintro en w1 ⟨rfl, rfl⟩
  go_upto_if 23 with fail
  go_cut [0, 1] (fun va vb wx => ∃ p q : Int, va = .int .u64 p ∧ vb = .int .u64 q ∧ ((p = a ∧ q = b ∧ rb ≤ ra) ∨ (p = b ∧ q = a ∧ ra < rb)) ∧ w = wx)
  case first =>
    by_cases c : ra < rb
    · go_wp2
      go_meet
      exact ⟨b, a, rfl, rfl, .inr ⟨rfl, rfl, c⟩, rfl⟩
    · go_wp2
      go_meet
      exact ⟨a, b, rfl, rfl, .inl ⟨rfl, rfl, c⟩, rfl⟩
  case rest =>
    obtain ⟨p, q, rfl, rfl, hpq, rfl⟩ := hcut
    obtain ⟨up, d, gh, gl, sh, sl, lost, S, h1, h2⟩ := Hs.out p q hpq
    have SP := Lib.hid (fun w => split_vars p _ _ _ h1 rfl rfl rfl w)
    have SQ := Lib.hid (fun w => split_vars q _ _ _ h2 rfl rfl rfl w)
    clear Hs hpq HA HB h1 h2
    generalize negB p = np at *
    generalize negB q = nq at *
    generalize mantI p = mp at *
    generalize mantI q = mq at *
    generalize powI p = ep at *
    generalize powI q = eq at *
    obtain ⟨m0, m1, n0, n1, e0, e1, e2, e3, hup, hd, G1, G2, GV, S1, S2, SV, hlo, same, zero, diff⟩ := S
    have SH : Hid (∀ w, Calls Tryd.prog 48 #[.agg #[.int .u64 0, .int .u64 mp], .int .i64 up] w fun e w' => e = .returned (.agg #[.int .u64 gh, .int .u64 gl]) ∧ Below w.heap.size w w') := fun w => by
      have hv : val 0 mp * pw up % 340282366920938463463374607431768211456 = mp * pw up := by
        have : val 0 mp = mp := by unfold val; omega
        rw [this, Int.emod_eq_of_lt]
        · rw [← GV]; exact (val_bd G1 G2).1
        · rw [← GV]; exact (val_bd G1 G2).2
      exact (shl_any 0 mp up (by decide) ⟨m0, m1⟩ (by omega) w).mono (U128Post.at G1 G2 (GV.trans hv.symm) w)
    have SR : Hid (∀ w, Calls Tryd.prog 75 #[.agg #[.int .u64 0, .int .u64 mq], .int .i64 d] w fun e w' => e = .returned (.tuple #[.agg #[.int .u64 sh, .int .u64 sl], .bool lost]) ∧ Below w.heap.size w w') := fun w => by
      have hv : val 0 mq = mq := by unfold val; omega
      exact (shr_any 0 mq d (by decide) ⟨n0, n1⟩ (by omega) w).mono (ShrPost.at S1 S2 (by rw [hv, SV]) (by rw [hv, hlo]) w)
    have hU : min (ep - eq) 70 = up := hup.symm
    have u0 : 0 ≤ up := by omega
    have u1 : up ≤ 70 := by omega
    have hD : ep - up - eq = d := hd.symm
    have j0 : -9223372036854775808 ≤ ep - up := by omega
    have j1 : ep - up ≤ 9223372036854775807 := by omega
    have d0 : 0 ≤ d := by omega
    have d1 : d ≤ 10000 := by omega
    clear hup hd hlo GV SV
    go_wp2_with fail
    refine (SP.out _).mono ?_
    rintro en w1 ⟨rfl, rfl⟩
    go_wp2_with fail
    refine (SQ.out _).mono ?_
    rintro en w1 ⟨rfl, rfl⟩
    go_wp2_with fail
    refine (SH.out _).mono ?_
    rintro en w1 ⟨rfl, hb1⟩
    have HB1 := Lib.hid hb1
    have y1 := hb1.size
    clear hb1
    go_wp2_with fail
    refine (SR.out _).mono ?_
    rintro en w2 ⟨rfl, hb2⟩
    have y2 := hb2.size; simp at y2
    have g20 : w2.cell? ⟨w1.heap.size, 0, none⟩ = some (.int .u64 gh) := by rw [(bcell hb2).1 _ _ (by simp)]; simp [go_sem]
    have g21 : w2.cell? ⟨w1.heap.size, 1, none⟩ = some (.int .u64 gl) := by rw [(bcell hb2).1 _ _ (by simp)]; simp [go_sem]
    have HB2 : Hid (Below w.heap.size w w2) := (HB1.out.alloc (by omega) _).trans (hb2.mono (by simp; omega))
    have y2' : w1.heap.size < w2.heap.size := by omega
    have yw : w.heap.size ≤ w2.heap.size := by omega
    have y12 : w1.heap.size ≠ w2.heap.size := by omega
    clear hb2 HB1 y2
    by_cases hn : np = nq
    · obtain ⟨rh, rl, R1, R2, RV, n, hbits, hj⟩ := same hn
      subst hn
      have AD := Lib.hid (fun w => (add_any gh gl sh sl G1 G2 S1 S2 w).mono (AddPost.at R1 R2 RV w))
      have JN := Lib.hid (fun w => join_word R1 R2 j0 j1 hbits hj w)
      clear same zero diff G1 G2 S1 S2 R1 R2 RV hbits hj
      go_wp2_with fail
      refine (AD.out _).mono ?_
      rintro en w3 ⟨rfl, hb3⟩
      have y3 := hb3.size; simp at y3
      have HB3 : Hid (Below w.heap.size w w3) := (HB2.out.alloc yw _).trans (hb3.mono (by simp; omega))
      clear hb3 HB2
      go_wp2_with fail
      refine (JN.out _).mono ?_
      rintro en w4 ⟨rfl, hb4⟩
      have HB4 : Hid (Below w.heap.size w w4) := (HB3.out.alloc (by omega) _).trans (hb4.mono (by simp; omega))
      clear hb4 HB3
      go_wp2
      go_ret
      exact ⟨rfl, HB4.out⟩
    · have hnb : (np == nq) = false := by simpa using hn
      by_cases h0 : val gh gl - val sh sl = 0
      · have hR := Lib.hid (zero hn h0)
        have SB := Lib.hid (fun w => (sub_any gh gl sh sl G1 G2 S1 S2 w).mono (SubPost.at (r := 0) (t := 0) (by decide) (by decide) (by rw [h0]; rfl) w))
        clear same zero diff G1 G2 S1 S2 h0 hn
        go_wp2_with fail
        refine (SB.out _).mono ?_
        rintro en w3 ⟨rfl, hb3⟩
        have y3 := hb3.size; simp at y3
        have HB3 : Hid (Below w.heap.size w w3) := (HB2.out.alloc yw _).trans (hb3.mono (by simp; omega))
        clear hb3 HB2
        go_wp2
        go_ret
        exact ⟨congrArg (fun z => Ending.returned (.int .u64 z)) hR.out.symm, HB3.out.alloc (by omega) _⟩
      · obtain ⟨rh, rl, th, tl, R1, R2, RV, T1, T2, TV, n, hbits, hj⟩ := diff hn h0
        have SB := Lib.hid (fun w => (sub_any gh gl sh sl G1 G2 S1 S2 w).mono (SubPost.at R1 R2 RV w))
        have JN := Lib.hid (fun w => join_word T1 T2 j0 j1 hbits hj w)
        have hne : ¬ (rh = 0 ∧ rl = 0) := by rintro ⟨rfl, rfl⟩; apply h0; rw [← RV]; rfl
        have hne : ((rh == 0) && (rl == 0)) = false := by
          rcases Bool.eq_false_or_eq_true ((rh == 0) && (rl == 0)) with k | k
          · simp only [Bool.and_eq_true, beq_iff_eq] at k; exact absurd k hne
          · exact k
        cases lost
        · have eT : th = rh ∧ tl = rl := val_inj T1 T2 R1 R2 (by rw [TV]; simp)
          obtain ⟨rfl, rfl⟩ := eT
          clear same zero diff G1 G2 S1 S2 h0 hn R1 R2 RV T1 T2 TV hbits hj
          go_wp2_with fail
          refine (SB.out _).mono ?_
          rintro en w3 ⟨rfl, hb3⟩
          have y3 := hb3.size; simp at y3
          have HB3 : Hid (Below w.heap.size w w3) := (HB2.out.alloc yw _).trans (hb3.mono (by simp; omega))
          clear hb3 HB2
          rcases Bool.eq_false_or_eq_true (th == 0) with k1 | k1 <;> rcases Bool.eq_false_or_eq_true (tl == 0) with k2 | k2 <;> rw [k1, k2] at hne
          · cases hne
          all_goals
            clear hne
            go_wp2_with fail
            refine (JN.out _).mono ?_
            rintro en w4 ⟨rfl, hb4⟩
            have HB4 : Hid (Below w.heap.size w w4) := (HB3.out.alloc (by omega) _).trans (hb4.mono (by simp; omega))
            clear hb4 HB3
            go_wp2
            go_ret
            exact ⟨rfl, HB4.out⟩
        · have SO := Lib.hid (fun w => (sub_any rh rl 0 1 R1 R2 (by decide) (by decide) w).mono (SubPost.at T1 T2 (by rw [TV]; simp [val]) w))
          clear same zero diff G1 G2 S1 S2 h0 hn R1 R2 RV T1 T2 TV hbits hj
          go_wp2_with fail
          refine (SB.out _).mono ?_
          rintro en w3 ⟨rfl, hb3⟩
          have y3 := hb3.size; simp at y3
          have HB3 : Hid (Below w.heap.size w w3) := (HB2.out.alloc yw _).trans (hb3.mono (by simp; omega))
          clear hb3 HB2
          rcases Bool.eq_false_or_eq_true (rh == 0) with k1 | k1 <;> rcases Bool.eq_false_or_eq_true (rl == 0) with k2 | k2 <;> rw [k1, k2] at hne
          · cases hne
          all_goals
            clear hne
            go_wp2_with fail
            refine (SO.out _).mono ?_
            rintro en w4 ⟨rfl, hb4⟩
            have y4 := hb4.size; simp at y4
            have c0 : w4.cell? ⟨w3.heap.size, 0, none⟩ = some (.int .u64 rh) := by rw [(bcell hb4).1 _ _ (by simp)]; simp [go_sem]
            have c1 : w4.cell? ⟨w3.heap.size, 1, none⟩ = some (.int .u64 rl) := by rw [(bcell hb4).1 _ _ (by simp)]; simp [go_sem]
            have cf : ∀ o, w4.frozen? ⟨w3.heap.size, o, none⟩ = false := fun o => by rw [(bcell hb4).2 _ _ (by simp)]; simp [go_sem]
            have HB4 : Hid (Below w.heap.size w w4) := (HB3.out.alloc (by omega) _).trans (hb4.mono (by simp; omega))
            clear hb4 HB3
            go_wp2_with fail
            refine (JN.out _).mono ?_
            rintro en w5 ⟨rfl, hb5⟩
            have HB5 : Hid (Below w.heap.size w w5) := ((HB4.out.setCell (by simp; omega) _).setCell (by simp; omega) _).trans (hb5.mono (by simp [World.setCell]; omega))
            clear hb5 HB4
            go_wp2
            go_ret
            exact ⟨rfl, HB5.out⟩
end Go.Proofs.YtnefacnceemklaaDoor

/-
  Add, Sub, Mul: walked.
-/
namespace Go.Proofs.YtnefacnceemklaaDoor
open Go.RowKit Go.Shelf

def sumL : List Int := [6, 3, 3, 3, 1, 2, 0, 0, 3, 1, 2, 0, 0, 3, 1, 2, 2, 2, 7, 1, 1, 1, 1, 1, 1]
def prodL : List Int := [5, 5, 5, 1, 1, 5, 0, 0, 4, 1, 5, 0, 0, 4, 1, 1, 4, 4, 4, 1, 1, 1, 1, 1, 1]
/-- The two tables stand as start-up laid them. -/
def Tabs (w : World) : Prop := 2 ≤ w.heap.size ∧ (∀ n : Nat, n < 25 → w.cell? ⟨0, n, none⟩ = some (.int .i64 (sumL.getD n 0))) ∧ (∀ n : Nat, n < 25 → w.cell? ⟨1, n, none⟩ = some (.int .i64 (prodL.getD n 0)))
theorem Tabs.below {w w' : World} (h : Tabs w) (hb : Below w.heap.size w w') : Tabs w' := by
  obtain ⟨a, b, c⟩ := h
  exact ⟨Nat.le_trans a hb.size, fun n hn => by rw [(bcell hb).1 _ _ (by omega)]; exact b n hn, fun n hn => by rw [(bcell hb).1 _ _ (by omega)]; exact c n hn⟩

def addK (k j a b : Int) : Int :=
  if k = 4 ∨ j = 4 then 9221120237041090560
  else if k = 3 then (if j = 3 then (if a = b then a else 9221120237041090560) else a)
  else if j = 3 then b
  else if k = 0 then (if j = 0 then bits .and .u64 a b else b)
  else if j = 0 then a
  else R (sX a + sX b)
def addV (a b : Int) : Int := addK (kindI a) (kindI b) a b
theorem kind_bd (x : Int) : 0 ≤ kindI x ∧ kindI x ≤ 4 := by
  unfold kindI; repeat' split
  all_goals omega

theorem kind_q (x k : Int) (h : Word x) (hk : kindI x = k) (w : World) : Calls Tryd.prog 34 #[.int .u64 x] w fun e w' => e = .returned (.int .i64 k) ∧ w' = w :=
  (kind_vars x k h hk w).mono fun _ _ h => ⟨h.1, h.2.symm⟩

theorem word_below {r : Int} {w w1 : World} {n : Nat} (h : WordPost r (w.drewN n) (.returned (.int .u64 r)) w1) : Below w.heap.size w w1 :=
  (below_drewN (Below.refl _ _) n).trans (h.2.mono (by simp))

set_option maxRecDepth 100000 in
set_option maxHeartbeats 1000000 in
theorem plus_any (a b : Int) (h1 : Word a) (h2 : Word b) (w : World) (hT : Tabs w) :
    Calls Tryd.prog 26 #[.int .u64 a, .int .u64 b] w (WordPost (addV a b) w) := by
  obtain ⟨k, hk⟩ : ∃ z, kindI a = z := ⟨_, rfl⟩
  obtain ⟨j, hj⟩ : ∃ z, kindI b = z := ⟨_, rfl⟩
  have bk := kind_bd a
  have bj := kind_bd b
  rw [hk] at bk; rw [hj] at bj
  have KA := Lib.hid (fun w => kind_q a _ h1 hk w)
  have KB := Lib.hid (fun w => kind_q b _ h2 hj w)
  have hB0 : Hid (∀ n, Below w.heap.size w (w.drewN n)) := fun n => below_drewN (Below.refl _ _) n
  obtain ⟨r, hr⟩ : ∃ z, R (sX a + sX b) = z := ⟨_, rfl⟩
  have AD : Hid (1 ≤ k → k ≤ 2 → 1 ≤ j → j ≤ 2 → ∀ w, Calls Tryd.prog 60 #[.int .u64 a, .int .u64 b] w (WordPost r w)) := fun _ _ _ _ w => by
    rw [← hr]
    exact added_any a b h1 h2 (fin_of_kind h1 (by omega)) (fin_of_kind h2 (by omega)) (nz_of_kind h1 (by omega) (by omega)) (nz_of_kind h2 (by omega) (by omega)) w
  have V : Hid (∀ z, z = (if k = 4 ∨ j = 4 then 9221120237041090560 else if k = 3 then (if j = 3 then (if a = b then a else 9221120237041090560) else a) else if j = 3 then b
      else if k = 0 then (if j = 0 then bits .and .u64 a b else b) else if j = 0 then a else r) → Ending.returned (Value.int .u64 z) = .returned (.int .u64 (addV a b))) := by
    intro z hz
    rw [hz]; unfold addV addK; rw [hk, hj, hr]
  have cell : ∀ n : Nat, n < 25 → w.cell? ⟨0, n, none⟩ = some (.int .i64 (sumL.getD n 0)) := hT.2.1
  have Cell := Lib.hid cell
  clear h1 h2 hk hj hT hr cell
  generalize addV a b = v at *
  by_cases c33 : k = 3 ∧ j = 3
  · obtain ⟨rfl, rfl⟩ := c33
    have hcell := Cell.out 18 (by decide)
    simp [sumL] at hcell
    clear bk bj AD Cell
    by_cases hab : a = b
    · have V2 := Lib.hid (V.out a (by simp [hab])); clear V
      have hab : (a == b) = true := by simpa using hab
      go_enter Tryd.func26, Tryd.ntmps26
      go_wp2_with fail
      go_quiet (first | (go_at_call_of 34 (Value.int IntKind.u64 a); exact Calls.quiet_of_same (KA.out _)) | (go_at_call_of 34 (Value.int IntKind.u64 b); exact Calls.quiet_of_same (KB.out _)))
      go_wp2_with fail
      go_ret
      exact ⟨V2.out, hB0.out _⟩
    · have V2 := Lib.hid (V.out 9221120237041090560 (by simp [hab])); clear V
      have hab : (a == b) = false := by simpa using hab
      go_enter Tryd.func26, Tryd.ntmps26
      go_wp2_with fail
      go_quiet (first | (go_at_call_of 34 (Value.int IntKind.u64 a); exact Calls.quiet_of_same (KA.out _)) | (go_at_call_of 34 (Value.int IntKind.u64 b); exact Calls.quiet_of_same (KB.out _)))
      go_wp2_with fail
      go_ret
      exact ⟨V2.out, hB0.out _⟩
  · have ck : k = 0 ∨ k = 1 ∨ k = 2 ∨ k = 3 ∨ k = 4 := by omega
    have cj : j = 0 ∨ j = 1 ∨ j = 2 ∨ j = 3 ∨ j = 4 := by omega
    clear bk bj
    rcases ck with rfl | rfl | rfl | rfl | rfl <;> rcases cj with rfl | rfl | rfl | rfl | rfl
    all_goals first
      | exact absurd ⟨rfl, rfl⟩ c33
      | (have AD := Lib.hid (AD.out (by decide) (by decide) (by decide) (by decide))
         have V := Lib.hid (V.out r (by simp))
         have hcell := Cell.out 6 (by decide)
         have hcell2 := Cell.out 7 (by decide)
         have hcell3 := Cell.out 11 (by decide)
         have hcell4 := Cell.out 12 (by decide)
         simp [sumL] at hcell hcell2 hcell3 hcell4
         clear c33 Cell
         go_enter Tryd.func26, Tryd.ntmps26
         go_wp2_with fail
         go_quiet (first | (go_at_call_of 34 (Value.int IntKind.u64 a); exact Calls.quiet_of_same (KA.out _)) | (go_at_call_of 34 (Value.int IntKind.u64 b); exact Calls.quiet_of_same (KB.out _)))
         go_wp2_with (go_at_call 60; refine (AD.out _).mono ?_; rintro en w1 ⟨rfl, hb⟩)
         go_ret
         exact ⟨V.out, (hB0.out _).trans hb⟩)
      | (clear AD c33
         have hcell := Cell.out 0 (by decide)
         have hcell1 := Cell.out 1 (by decide)
         have hcell2 := Cell.out 2 (by decide)
         have hcell3 := Cell.out 3 (by decide)
         have hcell4 := Cell.out 4 (by decide)
         have hcell5 := Cell.out 5 (by decide)
         have hcell8 := Cell.out 8 (by decide)
         have hcell9 := Cell.out 9 (by decide)
         have hcell10 := Cell.out 10 (by decide)
         have hcell13 := Cell.out 13 (by decide)
         have hcell14 := Cell.out 14 (by decide)
         have hcell15 := Cell.out 15 (by decide)
         have hcell16 := Cell.out 16 (by decide)
         have hcell17 := Cell.out 17 (by decide)
         have hcell19 := Cell.out 19 (by decide)
         have hcell20 := Cell.out 20 (by decide)
         have hcell21 := Cell.out 21 (by decide)
         have hcell22 := Cell.out 22 (by decide)
         have hcell23 := Cell.out 23 (by decide)
         have hcell24 := Cell.out 24 (by decide)
         simp [sumL] at hcell hcell1 hcell2 hcell3 hcell4 hcell5 hcell8 hcell9 hcell10 hcell13 hcell14 hcell15 hcell16 hcell17 hcell19 hcell20 hcell21 hcell22 hcell23 hcell24
         go_enter Tryd.func26, Tryd.ntmps26
         go_wp2_with fail
         go_quiet (first | (go_at_call_of 34 (Value.int IntKind.u64 a); exact Calls.quiet_of_same (KA.out _)) | (go_at_call_of 34 (Value.int IntKind.u64 b); exact Calls.quiet_of_same (KB.out _)))
         go_wp2_with fail
         go_ret
         exact ⟨V.out _ (by simp), hB0.out _⟩)
end Go.Proofs.YtnefacnceemklaaDoor

/-
  Mul, Sub, rank: walked.
-/
namespace Go.Proofs.YtnefacnceemklaaDoor
open Go.RowKit Go.Shelf

def mulK (k j a b : Int) : Int :=
  if k = 4 ∨ j = 4 ∨ (k = 3 ∧ j = 0) ∨ (k = 0 ∧ j = 3) then 9221120237041090560
  else if k = 3 ∨ j = 3 then signI (negB a != negB b) + 9218868437227405312
  else if k = 0 ∨ j = 0 then signI (negB a != negB b)
  else rndI (negB a != negB b) (mantI a * mantI b) (powI a + powI b)
def mulV (a b : Int) : Int := mulK (kindI a) (kindI b) a b

theorem top_bit (n : Nat) (h : n < 2 ^ 64) : n.testBit 63 = decide (2 ^ 63 ≤ n) := by
  rw [Nat.testBit_eq_decide_div_mod_eq]
  congr 1
  apply propext
  constructor <;> intro h' <;> omega
theorem sign_xor (a b : Int) (h1 : Word a) (h2 : Word b) : bits .and .u64 (bits .xor .u64 a b) 9223372036854775808 = signI (negB a != negB b) := by
  obtain ⟨n, rfl⟩ := Int.eq_ofNat_of_zero_le h1.1
  obtain ⟨m, rfl⟩ := Int.eq_ofNat_of_zero_le h2.1
  have hn : n < 2 ^ 64 := by have := h1.2; omega
  have hm : m < 2 ^ 64 := by have := h2.2; omega
  have hx : n ^^^ m < 2 ^ 64 := Nat.xor_lt_two_pow hn hm
  rw [u64_xor_nat n m hn hm, u64_bits_and_top _ ⟨by omega, by omega⟩]
  have e := Nat.testBit_xor (x := n) (y := m) (i := 63)
  rw [top_bit _ hx, top_bit _ hn, top_bit _ hm] at e
  unfold signI negB
  have e1 : decide ((9223372036854775808 : Int) ≤ ((n ^^^ m : Nat) : Int)) = decide (2 ^ 63 ≤ n ^^^ m) := by congr 1; apply propext; omega
  have e2 : decide ((9223372036854775808 : Int) ≤ (n : Int)) = decide (2 ^ 63 ≤ n) := by congr 1; apply propext; omega
  have e3 : decide ((9223372036854775808 : Int) ≤ (m : Int)) = decide (2 ^ 63 ≤ m) := by congr 1; apply propext; omega
  rw [e2, e3]
  have e4 : (decide (2 ^ 63 ≤ n) != decide (2 ^ 63 ≤ m)) = (decide (2 ^ 63 ≤ n) ^^ decide (2 ^ 63 ≤ m)) := rfl
  rw [e4, ← e, ← e1]
  by_cases c : (9223372036854775808 : Int) ≤ ((n ^^^ m : Nat) : Int)
  · rw [if_pos c, decide_eq_true c]; rfl
  · rw [if_neg c, decide_eq_false c]; rfl

set_option maxRecDepth 100000 in
set_option maxHeartbeats 1000000 in
theorem times_any (a b : Int) (h1 : Word a) (h2 : Word b) (w : World) (hT : Tabs w) :
    Calls Tryd.prog 27 #[.int .u64 a, .int .u64 b] w (WordPost (mulV a b) w) := by
  obtain ⟨k, hk⟩ : ∃ z, kindI a = z := ⟨_, rfl⟩
  obtain ⟨j, hj⟩ : ∃ z, kindI b = z := ⟨_, rfl⟩
  have bk := kind_bd a
  have bj := kind_bd b
  rw [hk] at bk; rw [hj] at bj
  have KA := Lib.hid (fun w => kind_q a _ h1 hk w)
  have KB := Lib.hid (fun w => kind_q b _ h2 hj w)
  have hB0 : Hid (∀ n, Below w.heap.size w (w.drewN n)) := fun n => below_drewN (Below.refl _ _) n
  have hx := sign_xor a b h1 h2
  have ho := or_sign (negB a != negB b) 9218868437227405312 (by decide) (by decide)
  obtain ⟨r, hr⟩ : ∃ z, rndI (negB a != negB b) (mantI a * mantI b) (powI a + powI b) = z := ⟨_, rfl⟩
  obtain ⟨ma0, ma1, pa0, pa1⟩ := mant_bd a h1
  obtain ⟨mb0, mb1, pb0, pb1⟩ := mant_bd b h2
  have hne : (signI (negB a != negB b) != 0) = (negB a != negB b) := by cases (negB a != negB b) <;> rfl
  obtain ⟨wh, wl, w1, w2, wv⟩ := words (mantI a * mantI b) (Int.mul_nonneg ma0 mb0) (by
    have := mul_bd (mantI a) (mantI b) ⟨ma0, by omega⟩ ⟨mb0, by omega⟩
    omega)
  have SA := Lib.hid (fun w => split_vars a _ _ _ h1 rfl rfl rfl w)
  have SB := Lib.hid (fun w => split_vars b _ _ _ h2 rfl rfl rfl w)
  have ML : Hid (∀ w, Calls Tryd.prog 61 #[.int .u64 (mantI a), .int .u64 (mantI b)] w fun e w' => e = .returned (.agg #[.int .u64 wh, .int .u64 wl]) ∧ Below w.heap.size w w') := fun w =>
    (mul_any _ _ ⟨ma0, by omega⟩ ⟨mb0, by omega⟩ w).mono (U128Post.at w1 w2 wv w)
  have JN : Hid (∀ w, Calls Tryd.prog 37 #[.bool (negB a != negB b), .agg #[.int .u64 wh, .int .u64 wl], .int .i64 (powI a + powI b), .bool false] w (WordPost r w)) := fun w =>
    join_word w1 w2 (by omega) (by omega) (blen_bits (val_bd w1 w2).1) (by rw [wv]; exact hr) w
  have V : Hid (∀ z, z = (if k = 4 ∨ j = 4 ∨ (k = 3 ∧ j = 0) ∨ (k = 0 ∧ j = 3) then 9221120237041090560
      else if k = 3 ∨ j = 3 then signI (negB a != negB b) + 9218868437227405312
      else if k = 0 ∨ j = 0 then signI (negB a != negB b) else r) → Ending.returned (Value.int .u64 z) = .returned (.int .u64 (mulV a b))) := by
    intro z hz
    rw [hz]; unfold mulV mulK; rw [hk, hj, hr]
  have cell : ∀ n : Nat, n < 25 → w.cell? ⟨1, n, none⟩ = some (.int .i64 (prodL.getD n 0)) := hT.2.2
  have Cell := Lib.hid cell
  have pp0 : -9223372036854775808 ≤ powI a + powI b := by omega
  have pp1 : powI a + powI b ≤ 9223372036854775807 := by omega
  clear h1 h2 hk hj hT hr cell w1 w2 wv ma0 ma1 mb0 mb1
  generalize mulV a b = v at *
  generalize mantI a = ma at *
  generalize mantI b = mb at *
  generalize powI a = pa at *
  generalize powI b = pb at *
  generalize (negB a != negB b) = sg at *
  generalize negB a = na at *
  generalize negB b = nb at *
  generalize signI sg = sn at *
  have ck : k = 0 ∨ k = 1 ∨ k = 2 ∨ k = 3 ∨ k = 4 := by omega
  have cj : j = 0 ∨ j = 1 ∨ j = 2 ∨ j = 3 ∨ j = 4 := by omega
  clear bk bj
  rcases ck with rfl | rfl | rfl | rfl | rfl <;> rcases cj with rfl | rfl | rfl | rfl | rfl
  all_goals first
    | (have V := Lib.hid (V.out r (by simp))
       have hcell := Cell.out 6 (by decide)
       have hcell2 := Cell.out 7 (by decide)
       have hcell3 := Cell.out 11 (by decide)
       have hcell4 := Cell.out 12 (by decide)
       simp [prodL] at hcell hcell2 hcell3 hcell4
       clear Cell
       go_enter Tryd.func27, Tryd.ntmps27
       go_wp2_with fail
       go_quiet (first | (go_at_call_of 34 (Value.int IntKind.u64 a); exact Calls.quiet_of_same (KA.out _)) | (go_at_call_of 34 (Value.int IntKind.u64 b); exact Calls.quiet_of_same (KB.out _)))
       go_wp2_with fail
       refine (SA.out _).mono ?_
       rintro en w1 ⟨rfl, rfl⟩
       go_wp2_with fail
       refine (SB.out _).mono ?_
       rintro en w1 ⟨rfl, rfl⟩
       go_wp2_with fail
       refine (ML.out _).mono ?_
       rintro en w1 ⟨rfl, hb1⟩
       go_wp2_with fail
       refine (JN.out _).mono ?_
       rintro en w2 ⟨rfl, hb2⟩
       go_wp2
       go_ret
       exact ⟨V.out, ((hB0.out _).trans hb1).trans (hb2.mono (by have := hb1.size; simp at this; omega))⟩)
    | (clear SA SB ML JN
       have hcell := Cell.out 0 (by decide)
       have hcell1 := Cell.out 1 (by decide)
       have hcell2 := Cell.out 2 (by decide)
       have hcell3 := Cell.out 3 (by decide)
       have hcell4 := Cell.out 4 (by decide)
       have hcell5 := Cell.out 5 (by decide)
       have hcell8 := Cell.out 8 (by decide)
       have hcell9 := Cell.out 9 (by decide)
       have hcell10 := Cell.out 10 (by decide)
       have hcell13 := Cell.out 13 (by decide)
       have hcell14 := Cell.out 14 (by decide)
       have hcell15 := Cell.out 15 (by decide)
       have hcell16 := Cell.out 16 (by decide)
       have hcell17 := Cell.out 17 (by decide)
       have hcell18 := Cell.out 18 (by decide)
       have hcell19 := Cell.out 19 (by decide)
       have hcell20 := Cell.out 20 (by decide)
       have hcell21 := Cell.out 21 (by decide)
       have hcell22 := Cell.out 22 (by decide)
       have hcell23 := Cell.out 23 (by decide)
       have hcell24 := Cell.out 24 (by decide)
       simp [prodL] at hcell hcell1 hcell2 hcell3 hcell4 hcell5 hcell8 hcell9 hcell10 hcell13 hcell14 hcell15 hcell16 hcell17 hcell18 hcell19 hcell20 hcell21 hcell22 hcell23 hcell24
       go_enter Tryd.func27, Tryd.ntmps27
       go_wp2_with fail
       go_quiet (first | (go_at_call_of 34 (Value.int IntKind.u64 a); exact Calls.quiet_of_same (KA.out _)) | (go_at_call_of 34 (Value.int IntKind.u64 b); exact Calls.quiet_of_same (KB.out _)))
       go_wp2_with fail
       go_ret
       exact ⟨V.out _ (by simp), hB0.out _⟩)

def subV (a b : Int) : Int := addV a (negI b)
set_option maxHeartbeats 400000 in
theorem minus_any (a b : Int) (h1 : Word a) (h2 : Word b) (w : World) (hT : Tabs w) :
    Calls Tryd.prog 33 #[.int .u64 a, .int .u64 b] w (WordPost (subV a b) w) := by
  obtain ⟨c, hc⟩ : ∃ z, negI b = z := ⟨_, rfl⟩
  have N := Lib.hid (fun w => neg_vars b c h2 hc w)
  have A := Lib.hid (plus_any a c h1 (by rw [← hc]; exact neg_word b h2) w hT)
  unfold subV
  rw [hc]
  clear h1 h2 hT hc
  generalize addV a c = r at *
  go_enter Tryd.func33, Tryd.ntmps33
  go_wp2_with fail
  refine (N.out _).mono ?_
  rintro en w1 ⟨rfl, rfl⟩
  go_wp2_with fail
  refine (A.out).mono ?_
  rintro en w1 ⟨rfl, hb⟩
  go_wp2
  go_ret
  exact ⟨rfl, hb⟩

def rankI (x : Int) : Int := if negB x = true then -(x - 9223372036854775808) else x
end Go.Proofs.YtnefacnceemklaaDoor

/-
  Sum, and the head of chapter 4's statements.
-/
namespace Go.Proofs.YtnefacnceemklaaDoor
open Go.RowKit Go.Shelf

def sumV (l : List Int) : Int := l.foldl addV 0
theorem R_word (s : Int) : Word (R s) := by
  unfold R
  split
  · decide
  · have h0 : 0 ≤ (if s < 0 then -s else s) := by split <;> omega
    have := rnd_bd (-1074) h0
    rw [rnd_neg]
    unfold signI Word
    split <;> omega
theorem addV_word {a b : Int} (h1 : Word a) (h2 : Word b) : Word (addV a b) := by
  unfold addV addK
  split
  · decide
  split
  · split
    · split
      · exact h1
      · decide
    · exact h1
  split
  · exact h2
  split
  · split
    · obtain ⟨n, rfl⟩ := Int.eq_ofNat_of_zero_le h1.1
      obtain ⟨m, rfl⟩ := Int.eq_ofNat_of_zero_le h2.1
      have hn : n < 18446744073709551616 := by have := h1.2; omega
      rw [u64_and_nat n m hn (by have := h2.2; omega)]
      have := Nat.and_le_left (n := n) (m := m)
      exact ⟨by omega, by omega⟩
    · exact h2
  split
  · exact h1
  · exact R_word _

end Go.Proofs.YtnefacnceemklaaDoor

