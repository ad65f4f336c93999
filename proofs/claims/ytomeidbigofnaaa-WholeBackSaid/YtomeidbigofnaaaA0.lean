/-
  Rounding, over whole numbers of any size: what is exact, what is scaled, what is left to a last bit.
-/
import Derived.Test.YtomeidbigofnaaaZ2
namespace Go.Proofs.Ytomeidbigofnaaa
open Go.RowKit Go.Shelf

/-- How many bits a number has. -/
def blen (v : Int) : Nat := if v ≤ 0 then 0 else v.toNat.log2 + 1
theorem blen_bits {v : Int} (h : 0 ≤ v) : Bits v (blen v) := by
  unfold blen
  by_cases c : v ≤ 0
  · rw [if_pos c]; exact ⟨h, by show v < 1; omega, fun hz => by omega⟩
  · rw [if_neg c]
    obtain ⟨n, rfl⟩ := Int.eq_ofNat_of_zero_le h
    have a := Nat.log2_self_le (n := n) (by omega)
    have b := Nat.lt_log2_self (n := n)
    rw [Int.toNat_natCast]
    refine ⟨h, ?_, fun _ => ?_⟩
    · show (n : Int) < ((2 ^ (n.log2 + 1) : Nat) : Int)
      exact_mod_cast b
    · show ((2 ^ (n.log2 + 1) : Nat) : Int) ≤ 2 * (n : Int)
      rw [Nat.pow_succ]; generalize 2 ^ n.log2 = q at *; omega
theorem bits_unique {v : Int} {n m : Nat} (hz : v ≠ 0) (h1 : Bits v n) (h2 : Bits v m) : n = m := len_unique h1.lt (h1.ge hz) h2.lt (h2.ge hz)
theorem blen_of {v : Int} {n : Nat} (hz : v ≠ 0) (h : Bits v n) : blen v = n := bits_unique hz (blen_bits h.v0) h
theorem mul_ne {v k : Int} (hv : 0 ≤ v) (hz : v ≠ 0) : v * pw k ≠ 0 := by
  have := Int.mul_pos (show 0 < v by omega) (pw_pos k); omega
theorem bits_scale {v k : Int} {n : Nat} (hk : 0 ≤ k) (h : Bits v n) : v ≠ 0 → Bits (v * pw k) (n + k.toNat) := by
  intro hz
  have e : ((n + k.toNat : Nat) : Int) = (n : Int) + k := by omega
  refine ⟨Int.mul_nonneg h.v0 (Int.le_of_lt (pw_pos _)), ?_, fun _ => ?_⟩
  · rw [e, pw_add _ _ (by omega) hk]; exact Int.mul_lt_mul_of_pos_right h.lt (pw_pos _)
  · rw [e, pw_add _ _ (by omega) hk, ← Int.mul_assoc]; exact Int.mul_le_mul_of_nonneg_right (h.ge hz) (Int.le_of_lt (pw_pos _))

/-- The nearest number to v times 2^e. -/
def rndI (neg : Bool) (v e : Int) : Int := joinV neg v e (blen v) false

theorem packV_scale (v c k : Int) (hk : 0 ≤ k) : packV (v * pw k) (c + k) false = packV v c false := by
  unfold packV
  by_cases c1 : c ≤ 0
  · rw [if_pos c1]
    by_cases c2 : c + k ≤ 0
    · rw [if_pos c2, Int.mul_assoc, ← pw_add _ _ hk (by omega)]; congr 2; omega
    · rw [if_neg c2, round_eq _ _ _ (by omega)]
      have e : v * pw k = v * pw (-c) * pw (c + k) := by rw [Int.mul_assoc, ← pw_add _ _ (by omega) (by omega)]; congr 2; omega
      have hp := pw_pos (c + k - 1)
      rw [e, Int.mul_emod_left, if_neg (by omega), Int.mul_ediv_cancel _ (Int.ne_of_gt (pw_pos _))]
  · rw [if_neg c1, if_neg (by omega)]
    have := round_top (v * pw k) k c false false hk (by omega) (by simp [Int.mul_emod_left])
    rw [Int.mul_ediv_cancel _ (Int.ne_of_gt (pw_pos _))] at this
    exact this.symm

theorem rnd_scale (neg : Bool) {v k : Int} (e : Int) (hv : 0 ≤ v) (hk : 0 ≤ k) : rndI neg (v * pw k) e = rndI neg v (e + k) := by
  unfold rndI
  by_cases hz : v = 0
  · subst hz; rw [Int.zero_mul]; unfold joinV; rw [if_pos (.inl rfl), if_pos (.inl rfl)]
  have hb := blen_bits hv
  rw [blen_of (mul_ne hv hz) (bits_scale hk hb hz)]
  generalize blen v = n at *
  have hn : 1 ≤ n := by
    rcases Nat.eq_zero_or_pos n with h | h
    · subst h; have := hb.lt; rw [show pw ((0 : Nat) : Int) = 1 from rfl] at this; omega
    · exact h
  have en : ((n + k.toNat : Nat) : Int) = (n : Int) + k := by omega
  have hm := mul_ne (k := k) hv hz
  unfold joinV
  rw [en]
  by_cases c1 : e + k < -2148 - (n : Int)
  · have d1 : e < -2148 - ((n : Int) + k) := by omega
    rw [if_pos (.inr d1), if_pos (.inr c1)]
  · have d1 : ¬(v * pw k = 0 ∨ e < -2148 - ((n : Int) + k)) := by omega
    have d2 : ¬(v = 0 ∨ e + k < -2148 - (n : Int)) := by omega
    rw [if_neg d1, if_neg d2]
    by_cases c2 : 1024 < e + k + (n : Int)
    · have d3 : 1024 < e ∨ 1024 < e + ((n : Int) + k) := by omega
      have d4 : 1024 < e + k ∨ 1024 < e + k + (n : Int) := by omega
      rw [if_pos d3, if_pos d4]
    · have d3 : ¬(1024 < e ∨ 1024 < e + ((n : Int) + k)) := by omega
      have d4 : ¬(1024 < e + k ∨ 1024 < e + k + (n : Int)) := by omega
      rw [if_neg d3, if_neg d4]
      have ep : placeI e ((n : Int) + k) = placeI (e + k) n := by unfold placeI; congr 1; omega
      rw [ep, show placeI (e + k) n - e = (placeI (e + k) n - (e + k)) + k by omega, packV_scale _ _ _ hk]

theorem bits_div {v d : Int} {n : Nat} (hd : 0 ≤ d) (hv : 0 ≤ v) (hz : v / pw d ≠ 0) (h : Bits (v / pw d) n) : Bits v (n + d.toNat) := by
  have e : ((n + d.toNat : Nat) : Int) = (n : Int) + d := by omega
  have hp := pw_pos d
  refine ⟨hv, ?_, fun _ => ?_⟩
  · rw [e, pw_add _ _ (by omega) hd]
    have a := h.lt
    have b := Int.lt_mul_ediv_self_add (x := v) (k := pw d) hp
    have c := Int.mul_le_mul_of_nonneg_right (show v / pw d + 1 ≤ pw (n : Int) by omega) (Int.le_of_lt hp)
    rw [Int.add_mul, Int.mul_comm (v / pw d)] at c
    omega
  · rw [e, pw_add _ _ (by omega) hd]
    have a := h.ge hz
    have b := Int.mul_ediv_add_emod v (pw d)
    have b0 := Int.emod_nonneg v (Int.ne_of_gt hp)
    have c := Int.mul_le_mul_of_nonneg_right a (Int.le_of_lt hp)
    rw [Int.mul_assoc, Int.mul_comm (v / pw d)] at c
    omega

theorem rnd_sticky (neg : Bool) {v d : Int} (e : Int) (lost : Bool) (hv : 0 ≤ v) (hd : 0 ≤ d) (hb : d = 0 ∨ pw 60 ≤ v / pw d) (hl : lost = false ↔ v % pw d = 0) :
    joinV neg (v / pw d) (e + d) (blen (v / pw d)) lost = rndI neg v e := by
  unfold rndI
  by_cases hd0 : d = 0
  · subst hd0
    have : v % pw 0 = 0 := by rw [show pw 0 = 1 from rfl]; omega
    rw [hl.2 this, show pw 0 = 1 from rfl, Int.ediv_one, Int.add_zero]
  have hb : pw 60 ≤ v / pw d := by omega
  have hz : v / pw d ≠ 0 := by have := pw_pos 60; omega
  have hvz : v ≠ 0 := fun h => by rw [h, Int.zero_ediv] at hz; exact hz rfl
  have hB := blen_bits (v := v / pw d) (by have := pw_pos 60; omega)
  rw [blen_of hvz (bits_div hd hv hz hB)]
  have hn : 60 < blen (v / pw d) := by
    have := pw_lt_of (by decide) (by omega) (show pw 60 < pw (blen (v / pw d) : Int) by have := hB.lt; omega)
    omega
  generalize blen (v / pw d) = n at *
  have en : ((n + d.toNat : Nat) : Int) = (n : Int) + d := by omega
  unfold joinV
  rw [en]
  by_cases c1 : e + d < -2148 - (n : Int)
  · have d1 : e < -2148 - ((n : Int) + d) := by omega
    rw [if_pos (.inr c1), if_pos (.inr d1)]
  · have d1 : ¬(v = 0 ∨ e < -2148 - ((n : Int) + d)) := by omega
    have d2 : ¬(v / pw d = 0 ∨ e + d < -2148 - (n : Int)) := by omega
    rw [if_neg d2, if_neg d1]
    by_cases c2 : 1024 < e + d + (n : Int)
    · have d3 : 1024 < e ∨ 1024 < e + ((n : Int) + d) := by omega
      have d4 : 1024 < e + d ∨ 1024 < e + d + (n : Int) := by omega
      rw [if_pos d4, if_pos d3]
    · have d3 : ¬(1024 < e ∨ 1024 < e + ((n : Int) + d)) := by omega
      have d4 : ¬(1024 < e + d ∨ 1024 < e + d + (n : Int)) := by omega
      rw [if_neg d4, if_neg d3]
      have ep : placeI e ((n : Int) + d) = placeI (e + d) n := by unfold placeI; congr 1; omega
      have c3 : 1 ≤ placeI (e + d) n - (e + d) := by unfold placeI; omega
      rw [ep]
      unfold packV
      rw [if_neg (by omega), if_neg (by omega)]
      have := round_top v d (placeI (e + d) n - (e + d)) false lost hd c3 hl
      rw [Bool.false_or] at this
      rw [this]
      congr 3; omega

theorem rnd_mono {a b : Int} (e : Int) (ha : 0 ≤ a) (h : a ≤ b) : rndI false a e ≤ rndI false b e :=
  joinV_mono (blen_bits ha) (blen_bits (by omega)) h (fun c => pack_mono c h)
theorem rnd_bd (e : Int) {a : Int} (ha : 0 ≤ a) : 0 ≤ rndI false a e ∧ rndI false a e ≤ 9218868437227405312 := joinV_bd false (blen_bits ha)
theorem rnd_sign (v e : Int) : rndI true v e = rndI false v e + 9223372036854775808 := by
  unfold rndI joinV signI
  simp only [Bool.false_eq_true, if_false, if_true]
  split
  · omega
  · split <;> omega
theorem rnd_neg (neg : Bool) (v e : Int) : rndI neg v e = signI neg + rndI false v e := by
  cases neg
  · unfold signI; simp
  · rw [rnd_sign]; unfold signI; simp; omega
theorem rnd_zero (neg : Bool) (e : Int) : rndI neg 0 e = signI neg := by unfold rndI joinV; rw [if_pos (.inl rfl)]

/-! ### What a number is: an int times 2^-1074 -/
def XI (x : Int) : Int := mantI x * pw (powI x + 1074)
theorem mant_bd (x : Int) (h : Word x) : 0 ≤ mantI x ∧ mantI x < 9007199254740992 ∧ -1074 ≤ powI x ∧ powI x ≤ 971 := by
  obtain ⟨_, a, b, c, d⟩ := abs_parts x h
  unfold mantI powI
  repeat' split
  all_goals omega
theorem XI_nonneg (x : Int) (h : Word x) : 0 ≤ XI x := Int.mul_nonneg (mant_bd x h).1 (Int.le_of_lt (pw_pos _))
theorem pack_zero (v : Int) : packV v 0 false = v := by unfold packV; rw [if_pos (by decide), show pw (-0) = 1 from rfl]; omega
theorem mant_self (x : Int) (h : Word x) (hf : expI x ≠ 2047) : rndI false (mantI x) (powI x) = absI x := by
  obtain ⟨ea, a, b, c, d⟩ := abs_parts x h
  unfold rndI
  by_cases he : expI x = 0
  · have em : mantI x = fracI x := by unfold mantI; rw [if_neg hf, if_pos he]
    have ep : powI x = -1074 := by unfold powI; rw [if_neg hf, if_pos he]
    rw [em, ep, ea, he]
    by_cases hz : fracI x = 0
    · rw [hz]; unfold joinV; rw [if_pos (.inl rfl)]; rfl
    · have hb := blen_bits c
      have hn : blen (fracI x) ≤ 52 := by
        have h2 := hb.ge hz
        have := pw_lt_of (a := (blen (fracI x) : Int)) (b := 53) (by omega) (by decide) (by rw [show pw 53 = 9007199254740992 from rfl]; omega)
        omega
      generalize blen (fracI x) = n at *
      unfold joinV
      rw [if_neg (by omega), if_neg (by omega)]
      have : placeI (-1074) n = -1074 := by unfold placeI; omega
      rw [this, show (-1074 : Int) - -1074 = 0 by decide, pack_zero]
      unfold signI; simp
  · have em : mantI x = 4503599627370496 + fracI x := by unfold mantI; rw [if_neg hf, if_neg he]
    have ep : powI x = expI x - 1075 := by unfold powI; rw [if_neg hf, if_neg he]
    rw [em, ep, ea]
    have hb : Bits (4503599627370496 + fracI x) 53 := ⟨by omega, by rw [show pw ((53 : Nat) : Int) = 9007199254740992 from rfl]; omega, fun _ => by rw [show pw ((53 : Nat) : Int) = 9007199254740992 from rfl]; omega⟩
    rw [blen_of (by omega) hb]
    unfold joinV
    rw [if_neg (by omega), if_neg (by omega)]
    have : placeI (expI x - 1075) ((53 : Nat) : Int) = expI x - 1075 := by unfold placeI; omega
    rw [this, show (expI x - 1075) - (expI x - 1075) = 0 by omega, pack_zero]
    unfold signI; simp; omega
theorem rnd_self (x : Int) (h : Word x) (hf : expI x ≠ 2047) : rndI false (XI x) (-1074) = absI x := by
  have := mant_bd x h
  unfold XI
  rw [rnd_scale false (-1074) this.1 (by omega), show -1074 + (powI x + 1074) = powI x by omega]
  exact mant_self x h hf
theorem XI_lt {x y : Int} (h1 : Word x) (h2 : Word y) (f1 : expI x ≠ 2047) (f2 : expI y ≠ 2047) (h : absI x < absI y) : XI x < XI y := by
  rcases Int.lt_or_le (XI x) (XI y) with c | c
  · exact c
  · have := rnd_mono (-1074) (XI_nonneg y h2) c
    rw [rnd_self x h1 f1, rnd_self y h2 f2] at this; omega
theorem XI_abs {x y : Int} (h1 : Word x) (h2 : Word y) (h : absI x = absI y) : XI x = XI y ∧ mantI x = mantI y ∧ powI x = powI y := by
  obtain ⟨ea, a, b, c, d⟩ := abs_parts x h1
  obtain ⟨ea', a', b', c', d'⟩ := abs_parts y h2
  have e1 : expI x = expI y := by omega
  have e2 : fracI x = fracI y := by omega
  have e3 : mantI x = mantI y := by unfold mantI; rw [e1, e2]
  have e4 : powI x = powI y := by unfold powI; rw [e1]
  exact ⟨by unfold XI; rw [e3, e4], e3, e4⟩
theorem XI_le {x y : Int} (h1 : Word x) (h2 : Word y) (f1 : expI x ≠ 2047) (f2 : expI y ≠ 2047) (h : absI x ≤ absI y) : XI x ≤ XI y := by
  rcases Int.lt_or_eq_of_le h with h | h
  · exact Int.le_of_lt (XI_lt h1 h2 f1 f2 h)
  · rw [(XI_abs h1 h2 h).1]; omega
theorem XI_le_iff {x y : Int} (h1 : Word x) (h2 : Word y) (f1 : expI x ≠ 2047) (f2 : expI y ≠ 2047) : XI x ≤ XI y ↔ absI x ≤ absI y := by
  constructor
  · intro h
    rcases Int.lt_or_le (absI y) (absI x) with c | c
    · have := XI_lt h2 h1 f2 f1 c; omega
    · exact c
  · exact XI_le h1 h2 f1 f2
theorem XI_inj {x y : Int} (h1 : Word x) (h2 : Word y) (f1 : expI x ≠ 2047) (f2 : expI y ≠ 2047) (h : XI x = XI y) : absI x = absI y := by
  have a := (XI_le_iff h1 h2 f1 f2).1 (by omega)
  have b := (XI_le_iff h2 h1 f2 f1).1 (by omega)
  omega
theorem mant_zero (x : Int) (h : Word x) (hf : expI x ≠ 2047) : mantI x = 0 ↔ absI x = 0 := by
  obtain ⟨ea, a, b, c, d⟩ := abs_parts x h
  unfold mantI
  rw [if_neg hf]
  split <;> omega
theorem XI_zero (x : Int) (h : Word x) (hf : expI x ≠ 2047) : XI x = 0 ↔ absI x = 0 := by
  rw [← mant_zero x h hf]
  unfold XI
  constructor
  · intro e; rcases Int.mul_eq_zero.1 e with e | e
    · exact e
    · have := pw_pos (powI x + 1074); omega
  · intro e; rw [e, Int.zero_mul]
theorem abs_mant {x y : Int} (h1 : Word x) (h2 : Word y) (f1 : expI x ≠ 2047) (_f2 : expI y ≠ 2047) (h : absI y ≤ absI x) : powI y ≤ powI x := by
  obtain ⟨ea, a, b, c, d⟩ := abs_parts x h1
  obtain ⟨ea', a', b', c', d'⟩ := abs_parts y h2
  unfold powI
  repeat' split
  all_goals omega
theorem fin_of_kind {x : Int} (h : Word x) (hk : kindI x < 3) : expI x ≠ 2047 := by
  rw [kind_parts x h] at hk
  intro e
  rw [if_pos e] at hk
  split at hk <;> omega
theorem kind_of_fin {x : Int} (h : Word x) (hf : expI x ≠ 2047) : kindI x < 3 := by
  rw [kind_parts x h, if_neg hf]
  repeat' split
  all_goals omega
theorem nz_of_kind {x : Int} (h : Word x) (_hk : kindI x < 3) (h0 : kindI x ≠ 0) : absI x ≠ 0 := by
  obtain ⟨ea, a, b, c, d⟩ := abs_parts x h
  intro e
  apply h0
  rw [kind_parts x h]
  have e1 : expI x = 0 := by omega
  have e2 : fracI x = 0 := by omega
  rw [e1, e2]; rfl
end Go.Proofs.Ytomeidbigofnaaa
