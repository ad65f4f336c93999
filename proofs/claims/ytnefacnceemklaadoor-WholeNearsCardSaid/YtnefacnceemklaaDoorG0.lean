/-
  Stage 6, plain facts: ranks, whole parts, what is rounded to a whole number.
-/
import Derived.Test.YtnefacnceemklaaDoorX2
import Derived.Test.YtnefacnceemklaaDoorX3
namespace Go.Proofs.YtnefacnceemklaaDoor
open Go.RowKit Go.Shelf

/-- The whole part of a finite number's absolute value. -/
def wholI (x : Int) : Int := if 0 ≤ powI x then mantI x * pw (powI x) else mantI x / pw (-powI x)
/-- What is left of it, in units of which pw (-powI x) are one. -/
def leftI (x : Int) : Int := if 0 ≤ powI x then 0 else mantI x % pw (-powI x)
theorem abs_split (x : Int) (h : Word x) : x = signI (negB x) + absI x := by
  unfold signI negB absI
  have h0 := h.1; have h1 := h.2
  by_cases c : 9223372036854775808 ≤ x
  · simp [c]; omega
  · simp [c]; omega
/-- A finite number that is whole is its whole part, rounded. -/
theorem whol_self {x : Int} (h : Word x) (hf : expI x ≠ 2047) (hr : leftI x = 0) : rndI (negB x) (wholI x) 0 = x := by
  obtain ⟨m0, m1, p0, p1⟩ := mant_bd x h
  have e := mant_self x h hf
  have s := abs_split x h
  unfold leftI at hr
  unfold wholI
  by_cases c : 0 ≤ powI x
  · rw [if_pos c, rnd_scale (negB x) 0 m0 c, rnd_neg, Int.zero_add, e, ← s]
  · rw [if_neg c] at hr ⊢
    have d : mantI x / pw (-powI x) * pw (-powI x) = mantI x := Int.ediv_mul_cancel (Int.dvd_of_emod_eq_zero hr)
    have q0 : 0 ≤ mantI x / pw (-powI x) := Int.ediv_nonneg m0 (Int.le_of_lt (pw_pos _))
    have k := rnd_scale (negB x) (powI x) q0 (show 0 ≤ -powI x by omega)
    rw [d, show powI x + -powI x = 0 by omega] at k
    rw [← k, rnd_neg, e, ← s]
theorem whol_bd {x : Int} (h : Word x) : 0 ≤ wholI x ∧ (powI x < 0 → wholI x < 4503599627370496 + 4503599627370496) := by
  obtain ⟨m0, m1, p0, p1⟩ := mant_bd x h
  unfold wholI
  refine ⟨?_, fun c => ?_⟩
  · split
    · exact Int.mul_nonneg m0 (Int.le_of_lt (pw_pos _))
    · exact Int.ediv_nonneg m0 (Int.le_of_lt (pw_pos _))
  · rw [if_neg (by omega)]
    have := Int.ediv_le_self (pw (-powI x)) m0
    omega
theorem pw_big {k : Int} (h : 63 ≤ k) : 9223372036854775808 ≤ pw k := by
  have := pw_mono (a := 63) (b := k) (by decide) h
  rw [show pw 63 = 9223372036854775808 from rfl] at this
  exact this
/-- Below 2^-62 in units nothing is whole but zero; what is left is less than a half. -/
theorem left_small {x : Int} (h : Word x) (c : powI x < -62) : wholI x = 0 ∧ leftI x = mantI x ∧ 2 * mantI x < pw (-powI x) := by
  obtain ⟨m0, m1, p0, p1⟩ := mant_bd x h
  have b := pw_big (k := -powI x) (by omega)
  unfold wholI leftI
  rw [if_neg (by omega), if_neg (by omega)]
  exact ⟨Int.ediv_eq_zero_of_lt m0 (by omega), Int.emod_eq_of_lt m0 (by omega), by omega⟩

/-- Is the whole part one more, by a way (0 to 5), for a sign, an odd whole part, twice the rest against one, and whether nothing is left. -/
def upB (way : Int) (neg odd : Bool) (half : Int) (exact : Bool) : Bool :=
  if way = 0 then decide (0 < half) || (half == 0 && odd)
  else if way = 1 then decide (0 ≤ half)
  else if way = 3 then !exact
  else if way = 4 then neg && !exact
  else if way = 5 then !neg && !exact
  else false

/-- Where a number that is no NaN stands. -/
def rankW (x : Int) : Int := if negB x = true then -(x - 9223372036854775808) else x
def ordI (a b : Int) : Int := if a < b then -1 else if b < a then 1 else 0
theorem ord_bd (a b : Int) : -1 ≤ ordI a b ∧ ordI a b ≤ 1 := by unfold ordI; split <;> (try split) <;> omega
theorem ord_neg (a b : Int) : ordI a b = -ordI b a := by
  unfold ordI
  rcases Int.lt_trichotomy a b with c | c | c
  · rw [if_pos c, if_neg (by omega), if_pos c]
  · subst c; rw [if_neg (by omega), if_neg (by omega)]; rfl
  · rw [if_neg (by omega), if_pos c, if_pos c]; rfl
theorem ord_lt {a b : Int} : ordI a b < 0 ↔ a < b := by unfold ordI; split <;> (try split) <;> omega
theorem ord_eq {a b : Int} : ordI a b = 0 ↔ a = b := by unfold ordI; split <;> (try split) <;> omega
theorem ord_gt {a b : Int} : 0 < ordI a b ↔ b < a := by unfold ordI; split <;> (try split) <;> omega
/-- Of one rank: the same bits, or the two zeros. -/
theorem rank_same {a b : Int} (h1 : Word a) (h2 : Word b) (h : rankW a = rankW b) : a = b ∨ (a = 0 ∧ b = 9223372036854775808) ∨ (a = 9223372036854775808 ∧ b = 0) := by
  have := h1.1; have := h1.2; have := h2.1; have := h2.2
  unfold rankW negB at h
  by_cases c : 9223372036854775808 ≤ a <;> by_cases d : 9223372036854775808 ≤ b <;> simp [c, d] at h <;> omega
theorem rank_bd {a : Int} (h : Word a) : -9223372036854775808 < rankW a ∧ rankW a < 9223372036854775808 := by
  have := h.1; have := h.2
  unfold rankW negB
  by_cases c : 9223372036854775808 ≤ a <;> simp [c] <;> omega
theorem or_same {a b : Int} (h1 : Word a) (h2 : Word b) (h : rankW a = rankW b) : bits .or .u64 a b = if negB a = true then a else b := by
  rcases rank_same h1 h2 h with rfl | ⟨rfl, rfl⟩ | ⟨rfl, rfl⟩
  · obtain ⟨n, rfl⟩ := Int.eq_ofNat_of_zero_le h1.1
    have hn : n < 18446744073709551616 := by have := h1.2; omega
    rw [u64_or_nat n n hn hn, Nat.or_self]; simp
  · decide
  · decide
theorem and_same {a b : Int} (h1 : Word a) (h2 : Word b) (h : rankW a = rankW b) : bits .and .u64 a b = if negB a = true then b else a := by
  rcases rank_same h1 h2 h with rfl | ⟨rfl, rfl⟩ | ⟨rfl, rfl⟩
  · obtain ⟨n, rfl⟩ := Int.eq_ofNat_of_zero_le h1.1
    have hn : n < 18446744073709551616 := by have := h1.2; omega
    rw [u64_and_nat n n hn hn, Nat.and_self]; simp
  · decide
  · decide

/-- The comparison of two numbers; the lesser, the greater. -/
def cmpN (a b : Int) : Int := if kindI a = 4 ∨ kindI b = 4 then 0 else ordI (rankW a) (rankW b)
def cmpB (a b : Int) : Bool := !(kindI a == 4) && !(kindI b == 4)
def minI (a b : Int) : Int := if kindI a = 4 ∨ kindI b = 4 then 9221120237041090560 else if rankW a < rankW b ∨ (rankW a = rankW b ∧ negB a = true) then a else b
def maxI (a b : Int) : Int := if kindI a = 4 ∨ kindI b = 4 then 9221120237041090560 else if rankW b < rankW a ∨ (rankW a = rankW b ∧ negB a = false) then a else b

end Go.Proofs.YtnefacnceemklaaDoor
