/-
  The number that Join tells, by the whole number of 128 bits; and that a greater one is joined to no lesser number.
-/
import Derived.Test.YtomeidbigofnaaaF5
namespace Go.Proofs.Ytomeidbigofnaaa
open Go.RowKit Go.Shelf

/-- Rounding at a place, by what is left. -/
theorem round_eq (v c : Int) (more : Bool) (hc : 1 ≤ c) :
    roundI v c more = if pw (c - 1) ≤ v % pw c ∧ (more = true ∨ v % pw c ≠ pw (c - 1) ∨ v / pw c % 2 ≠ 0) then v / pw c + 1 else v / pw c := by
  have e : pw c = 2 * pw (c - 1) := by
    have := pw_add (c - 1) 1 (by omega) (by decide)
    rw [show c - 1 + 1 = c by omega, show pw 1 = 2 from rfl] at this; omega
  have hp := pw_pos (c - 1)
  have hm : v % pw (c - 1) = v % pw c % pw (c - 1) := (Int.emod_emod_of_dvd v ⟨2, by rw [e, Int.mul_comm]⟩).symm
  have r0 := Int.emod_nonneg v (show pw c ≠ 0 by omega)
  have r1 := Int.emod_lt_of_pos v (show 0 < pw c by omega)
  unfold roundI
  rw [hm]
  generalize v % pw c = R at *
  generalize v / pw c = A at *
  generalize pw (c - 1) = h at *
  have key : ((R != R % h) && (more || (R % h != 0) || (A % 2 != 0))) = true ↔ (h ≤ R ∧ (more = true ∨ R ≠ h ∨ A % 2 ≠ 0)) := by
    have hR : (R < h ∧ R % h = R) ∨ (h ≤ R ∧ R % h = R - h) := by
      by_cases c1 : R < h
      · exact .inl ⟨c1, Int.emod_eq_of_lt r0 c1⟩
      · refine .inr ⟨by omega, ?_⟩
        have : R % h = (R - h) % h := by rw [show R = (R - h) + h by omega, Int.add_emod_right, Int.add_sub_cancel]
        rw [this, Int.emod_eq_of_lt (by omega) (by omega)]
    generalize R % h = t at *
    simp only [bne_iff_ne, Bool.and_eq_true, Bool.or_eq_true, ne_eq, or_assoc]
    constructor
    · rintro ⟨a, b⟩
      refine ⟨by omega, ?_⟩
      rcases b with b | b | b
      · exact .inl b
      · exact .inr (.inl (by omega))
      · exact .inr (.inr b)
    · rintro ⟨a, b⟩
      refine ⟨by omega, ?_⟩
      rcases b with b | b | b
      · exact .inl b
      · exact .inr (.inl (by omega))
      · exact .inr (.inr b)
  by_cases c : h ≤ R ∧ (more = true ∨ R ≠ h ∨ A % 2 ≠ 0)
  · rw [if_pos (key.2 c), if_pos c]
  · rw [if_neg (fun x => c (key.1 x)), if_neg c]

/-- The top bits, and whether something was left, are rounded as the whole. -/
theorem round_top (v o c : Int) (more lost : Bool) (ho : 0 ≤ o) (hc : 1 ≤ c) (hl : lost = false ↔ v % pw o = 0) :
    roundI (v / pw o) c (more || lost) = roundI v (c + o) more := by
  have hq := pw_pos o
  have r0 := Int.emod_nonneg v (show pw o ≠ 0 by omega)
  have r1 := Int.emod_lt_of_pos v hq
  have ev := Int.mul_ediv_add_emod v (pw o)
  rw [round_eq _ c _ hc, round_eq v (c + o) more (by omega)]
  have e1 : v / pw (c + o) = v / pw o / pw c := by rw [Int.add_comm, pw_add _ _ ho (by omega), Int.ediv_ediv_of_nonneg (Int.le_of_lt hq)]
  have e2 : v % pw (c + o) = (v / pw o % pw c) * pw o + v % pw o := by
    have a := Int.mul_ediv_add_emod v (pw (c + o))
    have b := Int.mul_ediv_add_emod (v / pw o) (pw c)
    rw [e1, pw_add c o (by omega) ho] at a
    have k : pw c * pw o * (v / pw o / pw c) = (v / pw o - v / pw o % pw c) * pw o := by
      rw [show v / pw o - v / pw o % pw c = pw c * (v / pw o / pw c) by omega, Int.mul_assoc, Int.mul_comm (pw o), ← Int.mul_assoc]
    rw [k, Int.sub_mul, Int.mul_comm (v / pw o) (pw o)] at a
    rw [pw_add c o (by omega) ho]
    omega
  have e3 : pw (c + o - 1) = pw (c - 1) * pw o := by rw [← pw_add _ _ (by omega) ho]; congr 1; omega
  rw [e1, e2, e3]
  have hp := pw_pos (c - 1)
  generalize v / pw o % pw c = R at *
  generalize v / pw o / pw c = A at *
  generalize v % pw o = r at *
  generalize pw o = q at *
  generalize pw (c - 1) = h at *
  have k1 : h ≤ R ↔ h * q ≤ R * q + r := by
    constructor
    · intro k; have := Int.mul_le_mul_of_nonneg_right k (Int.le_of_lt hq); omega
    · intro k
      rcases Int.lt_or_le R h with k2 | k2
      · have := Int.mul_le_mul_of_nonneg_right (show R + 1 ≤ h by omega) (Int.le_of_lt hq)
        rw [Int.add_mul] at this; omega
      · exact k2
  have k2 : (R = h ∧ r = 0) ↔ R * q + r = h * q := by
    constructor
    · rintro ⟨rfl, rfl⟩; omega
    · intro k
      have : R = h := by
        rcases Int.lt_trichotomy R h with g | g | g
        · have := Int.mul_le_mul_of_nonneg_right (show R + 1 ≤ h by omega) (Int.le_of_lt hq)
          rw [Int.add_mul] at this; omega
        · exact g
        · have := Int.mul_le_mul_of_nonneg_right (show h + 1 ≤ R by omega) (Int.le_of_lt hq)
          rw [Int.add_mul] at this; omega
      subst this; exact ⟨rfl, by omega⟩
  have k3 : ((more || lost) = true ∨ R ≠ h ∨ A % 2 ≠ 0) ↔ (more = true ∨ R * q + r ≠ h * q ∨ A % 2 ≠ 0) := by
    cases more
    · cases lost
      · have : r = 0 := hl.1 rfl
        simp only [Bool.or_self, Bool.false_eq_true, false_or]
        constructor
        · rintro (g | g)
          · exact .inl (fun e => g (k2.2 e).1)
          · exact .inr g
        · rintro (g | g)
          · exact .inl (fun e => g (k2.1 ⟨e, this⟩))
          · exact .inr g
      · have : r ≠ 0 := fun e => by have := hl.2 e; cases this
        simp only [Bool.or_true, true_or, Bool.false_eq_true, false_or, true_iff]
        exact .inl (fun e => this (k2.2 e).2)
    · simp
  simp only [k1, k3]

theorem size_of' {v : Int} (h1 : 9223372036854775808 ≤ v) (h2 : v < 18446744073709551616) : (Lib.bitLen v.toNat : Int) = 64 := by
  obtain ⟨a, b, _⟩ := bitLen_bd v.toNat (by omega)
  have b := b (by omega)
  have : Lib.bitLen v.toNat = 64 := len_unique (v := v) (by generalize 2 ^ Lib.bitLen v.toNat = z at *; omega) (by generalize 2 ^ Lib.bitLen v.toNat = z at *; omega) (by have : (((2 ^ 64 : Nat)) : Int) = 18446744073709551616 := rfl; omega) (by have : (((2 ^ 64 : Nat)) : Int) = 18446744073709551616 := rfl; omega)
  rw [this]; rfl
def packV (v c : Int) (more : Bool) : Int := if c ≤ 0 then v * pw (-c) else roundI v c more
/-- The place of the lowest bit that is kept of a number of n bits times 2^e. -/
def placeI (e n : Int) : Int := max (e + n - 53) (-1074)
/-- The nearest number to v times 2^e, v of n bits. -/
def joinV (neg : Bool) (v e n : Int) (more : Bool) : Int :=
  if v = 0 ∨ e < -2148 - n then signI neg
  else if 1024 < e ∨ 1024 < e + n then signI neg + 9218868437227405312
  else signI neg + (packV v (placeI e n - e) more + (placeI e n + 1074) * 4503599627370496)

theorem join_full {neg more : Bool} {v e : Int} {w : World} {en : Ending} {w' : World} (h0 : 0 ≤ v) (h : JoinPost neg v e more w en w') :
    ∃ n : Nat, n ≤ 128 ∧ v < (2 ^ n : Nat) ∧ (v ≠ 0 → ((2 ^ n : Nat) : Int) ≤ 2 * v) ∧ en = .returned (.int .u64 (joinV neg v e n more)) ∧ Below w.heap.size w w' := by
  obtain ⟨n, over, top, size, lost, hn, h1, h2, rfl, rfl, hl, rfl, rfl, hb⟩ := h
  refine ⟨n, hn, h1, h2, ?_, hb⟩
  congr 2
  by_cases hz : v = 0
  · subst hz
    have : (0 : Int) / pw (max ((n : Int) - 64) 0) = 0 := Int.zero_ediv _
    unfold nearI joinV
    rw [this, if_pos (.inl rfl), if_pos (.inl rfl)]
  have h2 := h2 hz
  have en2 : ((2 ^ n : Nat) : Int) = pw (n : Int) := rfl
  by_cases c : (n : Int) ≤ 64
  · have e0 : max ((n : Int) - 64) 0 = 0 := by omega
    rw [e0] at hl ⊢
    rw [show pw 0 = 1 from rfl] at hl ⊢
    rw [Int.ediv_one]
    have hl2 : lost = false := hl.2 (by omega)
    have hv64 : v < 18446744073709551616 := by
      rw [en2] at h1
      have := pow_lt (show 0 ≤ (n : Int) by omega) c
      rw [pw_64] at this; omega
    obtain ⟨s1, s2, s3⟩ := bitLen_bd v.toNat (by omega)
    have s2 := s2 (by omega)
    have hs : Lib.bitLen v.toNat = n := len_unique (v := v) (by generalize 2 ^ Lib.bitLen v.toNat = z at *; omega) (by generalize 2 ^ Lib.bitLen v.toNat = z at *; omega) h1 h2
    rw [hs, hl2, Bool.or_false]
    unfold nearI joinV
    by_cases c1 : v = 0 ∨ e < -2148 - 0 - (n : Int)
    · have d1 : v = 0 ∨ e < -2148 - (n : Int) := by omega
      rw [if_pos c1, if_pos d1]
    · have d1 : ¬(v = 0 ∨ e < -2148 - (n : Int)) := by omega
      rw [if_neg c1, if_neg d1]
      by_cases c2 : 1024 < e ∨ 1024 < 0 + e + (n : Int)
      · have d2 : 1024 < e ∨ 1024 < e + (n : Int) := by omega
        rw [if_pos c2, if_pos d2]
      · have d2 : ¬(1024 < e ∨ 1024 < e + (n : Int)) := by omega
        rw [if_neg c2, if_neg d2]
        have eL : lastI (e + 0) n = placeI e n := by unfold lastI placeI; congr 1; omega
        rw [eL, Int.add_zero]
        congr 2
        unfold packI packV
        by_cases c3 : placeI e n - e ≤ 0
        · rw [if_pos c3, if_pos c3]
          have c4 : -(placeI e n - e) ≤ 53 - (n : Int) := by unfold placeI; omega
          rw [Nat.min_eq_left (by omega), pw_eq, IntKind.wrap_u64, Int.emod_eq_of_lt (Int.mul_nonneg h0 (Int.le_of_lt (pw_pos _)))]
          rw [en2] at h1
          have a := Int.mul_lt_mul_of_pos_right h1 (pw_pos (-(placeI e n - e)))
          rw [← pw_add _ _ (by omega) (by omega)] at a
          have b := pow_lt (show 0 ≤ (n : Int) + -(placeI e n - e) by omega) (show (n : Int) + -(placeI e n - e) ≤ 64 by omega)
          rw [pw_64] at b
          omega
        · rw [if_neg c3, if_neg c3]
  · have e0 : max ((n : Int) - 64) 0 = (n : Int) - 64 := by omega
    rw [e0] at hl ⊢
    have hq := pw_pos ((n : Int) - 64)
    have esp : pw (n : Int) = pw ((n : Int) - 64) * 18446744073709551616 := by rw [← pw_64, ← pw_add _ _ (by omega) (by omega)]; congr 1; omega
    have t1 : v / pw ((n : Int) - 64) < 18446744073709551616 := Int.ediv_lt_of_lt_mul hq (by rw [en2, esp, Int.mul_comm] at h1; exact h1)
    have t0 : 9223372036854775808 ≤ v / pw ((n : Int) - 64) := by
      rw [Int.le_ediv_iff_mul_le hq, Int.mul_comm]
      rw [en2, esp] at h2; omega
    have hs : (Lib.bitLen (v / pw ((n : Int) - 64)).toNat : Int) = 64 := by
      have := size_of' t0 t1
      exact this
    rw [hs]
    unfold nearI joinV
    by_cases c1 : e < -2148 - (n : Int)
    · have d1 : v / pw ((n : Int) - 64) = 0 ∨ e < -2148 - ((n : Int) - 64) - 64 := by omega
      rw [if_pos d1, if_pos (.inr c1)]
    · have d1 : ¬(v / pw ((n : Int) - 64) = 0 ∨ e < -2148 - ((n : Int) - 64) - 64) := by omega
      have d3 : ¬(v = 0 ∨ e < -2148 - (n : Int)) := by omega
      rw [if_neg d1, if_neg d3]
      by_cases c2 : 1024 < e ∨ 1024 < e + (n : Int)
      · have d2 : 1024 < e ∨ 1024 < (n : Int) - 64 + e + 64 := by omega
        rw [if_pos d2, if_pos c2]
      · have d2 : ¬(1024 < e ∨ 1024 < (n : Int) - 64 + e + 64) := by omega
        rw [if_neg d2, if_neg c2]
        have eL : lastI (e + ((n : Int) - 64)) 64 = placeI e n := by unfold lastI placeI; congr 1; omega
        rw [eL]
        congr 2
        have c3 : 11 ≤ placeI e n - (e + ((n : Int) - 64)) := by unfold placeI; omega
        unfold packI packV
        rw [if_neg (by omega), if_neg (by omega), round_top v ((n : Int) - 64) _ more lost (by omega) (by omega) hl]
        congr 1; omega
end Go.Proofs.Ytomeidbigofnaaa
