/-
  A greater int is never joined to a lesser number; a little more is never less, nor more than the next int.
-/
import Derived.Test.YtomeidbigofnaaaZ1
namespace Go.Proofs.Ytomeidbigofnaaa
open Go.RowKit Go.Shelf

/-- n is how many bits v has. -/
structure Bits (v : Int) (n : Nat) : Prop where
  v0 : 0 ≤ v
  lt : v < pw n
  ge : v ≠ 0 → pw n ≤ 2 * v

theorem pw_half (c : Int) (h : 1 ≤ c) : pw c = 2 * pw (c - 1) := by
  have := pw_add (c - 1) 1 (by omega) (by decide)
  rw [show c - 1 + 1 = c by omega, show pw 1 = 2 from rfl] at this; omega
theorem pw_lt_of {a b : Int} (_ha : 0 ≤ a) (hb : 0 ≤ b) (h : pw a < pw b) : a < b := by
  rcases Int.lt_or_le a b with h1 | h1
  · exact h1
  · have := pow_lt hb h1; omega
theorem bits_mono {a b : Int} {na nb : Nat} (_ha : Bits a na) (hb : Bits b nb) (h : a ≤ b) (hz : a ≠ 0) : na ≤ nb := by
  have h1 := _ha.ge hz
  have h2 := hb.lt
  have h3 : pw (na : Int) < pw ((nb : Int) + 1) := by
    rw [pw_add _ _ (by omega) (by decide), show pw 1 = 2 from rfl]; omega
  have := pw_lt_of (by omega) (by omega) h3
  omega

theorem packV_bd {v c : Int} {n : Nat} (more : Bool) (hv : Bits v n) (hc : (n : Int) - 53 ≤ c) : 0 ≤ packV v c more ∧ packV v c more ≤ 9007199254740992 := by
  have e53 : pw 53 = 9007199254740992 := rfl
  have h1 := hv.lt
  have h0 := hv.v0
  unfold packV
  by_cases k : c ≤ 0
  · rw [if_pos k]
    have a := Int.mul_lt_mul_of_pos_right h1 (pw_pos (-c))
    rw [← pw_add _ _ (by omega) (by omega)] at a
    have b := pow_lt (show 0 ≤ (n : Int) + -c by omega) (show (n : Int) + -c ≤ 53 by omega)
    exact ⟨Int.mul_nonneg h0 (Int.le_of_lt (pw_pos _)), by omega⟩
  · rw [if_neg k]
    have k0 : 0 ≤ v / pw c := Int.ediv_nonneg h0 (Int.le_of_lt (pw_pos _))
    have k1 : v / pw c < 9007199254740992 := by
      refine Int.ediv_lt_of_lt_mul (pw_pos _) ?_
      have b := pow_lt (show 0 ≤ (n : Int) by omega) (show (n : Int) ≤ 53 + c by omega)
      rw [pw_add 53 c (by decide) (by omega), e53] at b
      omega
    unfold roundI
    split <;> omega
theorem round_ge (v c : Int) (more : Bool) : v / pw c ≤ roundI v c more := by unfold roundI; split <;> omega
theorem round_le (v c : Int) (more : Bool) : roundI v c more ≤ v / pw c + 1 := by unfold roundI; split <;> omega
theorem packV_full {v : Int} {n : Nat} (more : Bool) (hv : Bits v n) (hz : v ≠ 0) : 4503599627370496 ≤ packV v ((n : Int) - 53) more := by
  have h1 := hv.ge hz
  have e52 : pw 52 = 4503599627370496 := rfl
  unfold packV
  by_cases k : (n : Int) - 53 ≤ 0
  · rw [if_pos k]
    have a := Int.mul_le_mul_of_nonneg_right h1 (Int.le_of_lt (pw_pos (-((n : Int) - 53))))
    rw [← pw_add _ _ (by omega) (by omega), show (n : Int) + -((n : Int) - 53) = 53 by omega, show pw 53 = 9007199254740992 from rfl, Int.mul_assoc] at a
    omega
  · rw [if_neg k]
    refine Int.le_trans ?_ (round_ge _ _ _)
    rw [Int.le_ediv_iff_mul_le (pw_pos _), ← e52, ← pw_add _ _ (by decide) (by omega), show (52 : Int) + ((n : Int) - 53) = (n : Int) - 1 by omega]
    rw [pw_half n (by omega)] at h1
    omega

/-! ### At one place a greater number is rounded to no lesser one -/
theorem div_mod_cmp {a b p : Int} (hp : 0 < p) (h : a < b) : a / p < b / p ∨ (a / p = b / p ∧ a % p < b % p) := by
  have e1 := Int.mul_ediv_add_emod a p
  have e2 := Int.mul_ediv_add_emod b p
  have m0 := Int.emod_nonneg a (Int.ne_of_gt hp)
  have m1 := Int.emod_lt_of_pos b hp
  rcases Int.lt_trichotomy (a / p) (b / p) with k | k | k
  · exact .inl k
  · rw [k] at e1; exact .inr ⟨k, by omega⟩
  · exfalso
    have := Int.mul_le_mul_of_nonneg_left (show b / p + 1 ≤ a / p by omega) (Int.le_of_lt hp)
    rw [Int.mul_add] at this
    omega
theorem pack_more (v c : Int) : packV v c false ≤ packV v c true := by
  unfold packV
  by_cases k : c ≤ 0
  · rw [if_pos k, if_pos k]; omega
  · rw [if_neg k, if_neg k, round_eq v c false (by omega), round_eq v c true (by omega)]
    by_cases h : pw (c - 1) ≤ v % pw c
    · rw [if_pos (show pw (c - 1) ≤ v % pw c ∧ (true = true ∨ _) from ⟨h, .inl rfl⟩)]
      split <;> omega
    · rw [if_neg (fun x => h x.1), if_neg (fun x => h x.1)]; omega
theorem pack_next {a b : Int} (c : Int) (h : a < b) : packV a c true ≤ packV b c false := by
  unfold packV
  by_cases k : c ≤ 0
  · rw [if_pos k, if_pos k]; exact Int.mul_le_mul_of_nonneg_right (by omega) (Int.le_of_lt (pw_pos _))
  · rw [if_neg k, if_neg k]
    rcases div_mod_cmp (pw_pos c) h with h1 | ⟨h1, h2⟩
    · have := round_le a c true; have := round_ge b c false; omega
    · rw [round_eq a c true (by omega), round_eq b c false (by omega), h1]
      by_cases hh : pw (c - 1) ≤ a % pw c
      · rw [if_pos ⟨hh, .inl rfl⟩, if_pos ⟨by omega, .inr (.inl (by omega))⟩]; omega
      · rw [if_neg (fun x => hh x.1)]; split <;> omega
theorem pack_mono {a b : Int} (c : Int) (h : a ≤ b) : packV a c false ≤ packV b c false := by
  rcases Int.lt_or_eq_of_le h with h | rfl
  · exact Int.le_trans (pack_more a c) (pack_next c h)
  · omega

theorem joinV_bd {v e : Int} {n : Nat} (more : Bool) (hv : Bits v n) : 0 ≤ joinV false v e n more ∧ joinV false v e n more ≤ 9218868437227405312 := by
  unfold joinV signI
  simp only [Bool.false_eq_true, if_false]
  split
  · omega
  · split
    · omega
    · have hb := packV_bd (c := placeI e n - e) more hv (by unfold placeI; omega)
      have : -1074 ≤ placeI e n ∧ placeI e n ≤ 971 := by unfold placeI; omega
      omega
theorem joinV_mono {a b e : Int} {na nb : Nat} {ma mb : Bool} (ha : Bits a na) (hb : Bits b nb) (h : a ≤ b) (hp : ∀ c, packV a c ma ≤ packV b c mb) : joinV false a e na ma ≤ joinV false b e nb mb := by
  by_cases hz : a = 0
  · have : joinV false a e na ma = 0 := by unfold joinV; rw [if_pos (.inl hz)]; rfl
    rw [this]; exact (joinV_bd mb hb).1
  have hbz : b ≠ 0 := by have := ha.v0; omega
  have hn := bits_mono ha hb h hz
  by_cases c1 : e < -2148 - (na : Int)
  · have : joinV false a e na ma = 0 := by unfold joinV; rw [if_pos (.inr c1)]; rfl
    rw [this]; exact (joinV_bd mb hb).1
  by_cases c2 : 1024 < e ∨ 1024 < e + (nb : Int)
  · have : joinV false b e nb mb = 9218868437227405312 := by
      have d : ¬(b = 0 ∨ e < -2148 - (nb : Int)) := by omega
      unfold joinV; rw [if_neg d, if_pos c2]; rfl
    rw [this]; exact (joinV_bd ma ha).2
  have d1 : ¬(a = 0 ∨ e < -2148 - (na : Int)) := by omega
  have d2 : ¬(b = 0 ∨ e < -2148 - (nb : Int)) := by omega
  have d3 : ¬(1024 < e ∨ 1024 < e + (na : Int)) := by omega
  unfold joinV
  rw [if_neg d1, if_neg d2, if_neg d3, if_neg c2]
  have hL : placeI e na ≤ placeI e nb := by unfold placeI; omega
  rcases Int.lt_or_eq_of_le hL with hL | hL
  · have p1 := (packV_bd (c := placeI e na - e) ma ha (by unfold placeI; omega)).2
    have e2 : placeI e nb - e = (nb : Int) - 53 := by unfold placeI at *; omega
    have p2 := packV_full mb hb hbz
    rw [e2]
    omega
  · rw [hL]
    have := hp (placeI e nb - e)
    omega
end Go.Proofs.Ytomeidbigofnaaa
