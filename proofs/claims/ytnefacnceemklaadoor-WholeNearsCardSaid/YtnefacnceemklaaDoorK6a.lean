/-
  A product and a sum, rounded once: plain facts.
-/
import Derived.Test.YtnefacnceemklaaDoorK5
import Derived.Test.YtnefacnceemklaaDoorX7
namespace Go.Proofs.YtnefacnceemklaaDoor
open Go.RowKit Go.Shelf

/-- What a signed whole number times 2^-2148 is rounded to. -/
def R2 (s : Int) : Int := if s = 0 then 0 else rndI (decide (s < 0)) (if s < 0 then -s else s) (-2148)
theorem R2_of (b : Bool) {v : Int} (h : 1 ≤ v) : R2 (sgn b v) = rndI b v (-2148) := by
  unfold R2 sgn
  cases b
  · simp only [Bool.false_eq_true, if_false]
    rw [if_neg (by omega), if_neg (by omega), show decide (v < 0) = false by simp; omega]
  · simp only [if_true]
    rw [if_neg (by omega), if_pos (by omega), show decide (-v < 0) = true by simp; omega, Int.neg_neg]
theorem sgn_mul (b : Bool) (v k : Int) : sgn b (v * k) = sgn b v * k := by
  unfold sgn; cases b
  · simp
  · simp [Int.neg_mul]
/-- The same sum, in other units. -/
theorem R2_units {s t b : Bool} {P C v L : Int} (hL : -2148 ≤ L) (h : IsSum (sgn s P + sgn t C) b v) (hv : v ≠ 0) :
    R2 (sgn s (P * pw (L + 2148)) + sgn t (C * pw (L + 2148))) = rndI b v L := by
  have v0 := h.v0
  have e : sgn s (P * pw (L + 2148)) + sgn t (C * pw (L + 2148)) = sgn b (v * pw (L + 2148)) := by
    rw [sgn_mul, sgn_mul, sgn_mul, ← Int.add_mul, h.e]; rfl
  have p := pw_pos (L + 2148)
  have q : 1 ≤ v * pw (L + 2148) := Int.mul_pos (show 0 < v by omega) p
  rw [e, R2_of b q, rnd_scale b (-2148) v0 (by omega), show -2148 + (L + 2148) = L by omega]
theorem R2_none {s t b : Bool} {P C L : Int} (h : IsSum (sgn s P + sgn t C) b 0) : R2 (sgn s (P * pw (L + 2148)) + sgn t (C * pw (L + 2148))) = 0 := by
  rw [sgn_mul, sgn_mul, ← Int.add_mul, h.e]
  cases b <;> simp [R2]
/-- The product and the summand, in units of two to the power of L. -/
theorem fma_units {a b c L : Int} (h1 : Word a) (h2 : Word b) (h3 : Word c) (hL : L = min (powI a + powI b) (powI c)) :
    XI a * XI b = mantI a * mantI b * pw (powI a + powI b - L) * pw (L + 2148) ∧ XI c * pw 1074 = mantI c * pw (powI c - L) * pw (L + 2148) ∧ -2148 ≤ L ∧ L ≤ 971 := by
  obtain ⟨_, _, p0, p1⟩ := mant_bd a h1
  obtain ⟨_, _, q0, q1⟩ := mant_bd b h2
  obtain ⟨_, _, r0, r1⟩ := mant_bd c h3
  refine ⟨?_, ?_, by omega, by omega⟩
  · have e : pw (powI a + powI b - L) * pw (L + 2148) = pw (powI a + 1074) * pw (powI b + 1074) := by
      rw [← pw_add _ _ (by omega) (by omega), ← pw_add _ _ (by omega) (by omega)]; congr 1; omega
    unfold XI
    rw [Int.mul_assoc (mantI a * mantI b), e]
    generalize pw (powI a + 1074) = A
    generalize pw (powI b + 1074) = B
    rw [Int.mul_assoc, Int.mul_left_comm A (mantI b) B, ← Int.mul_assoc]
  · have e : pw (powI c - L) * pw (L + 2148) = pw (powI c + 1074) * pw 1074 := by
      rw [← pw_add _ _ (by omega) (by omega), ← pw_add _ _ (by omega) (by omega)]; congr 1; omega
    unfold XI
    rw [Int.mul_assoc, Int.mul_assoc, e]
theorem fma_bounds {a b c L : Int} (h1 : Word a) (h2 : Word b) (h3 : Word c) (hL : L = min (powI a + powI b) (powI c)) :
    0 ≤ mantI a * mantI b ∧ mantI a * mantI b < 340282366920938463463374607431768211456 ∧ mantI a * mantI b * pw (powI a + powI b - L) < pw 3200 ∧ mantI c * pw (powI c - L) < pw 3200 := by
  obtain ⟨a0, a1, p0, p1⟩ := mant_bd a h1
  obtain ⟨b0, b1, q0, q1⟩ := mant_bd b h2
  obtain ⟨c0, c1, r0, r1⟩ := mant_bd c h3
  have P := Int.mul_le_mul (show mantI a ≤ 9007199254740991 by omega) (show mantI b ≤ 9007199254740991 by omega) b0 (by decide)
  have P0 := Int.mul_nonneg a0 b0
  refine ⟨P0, by omega, ?_, ?_⟩
  · have x := pw_mono (a := powI a + powI b - L) (b := 3090) (by omega) (by omega)
    have y := Int.mul_le_mul (show mantI a * mantI b ≤ pw 110 by rw [show pw 110 = 1298074214633706907132624082305024 from rfl]; omega) x (Int.le_of_lt (pw_pos _)) (Int.le_of_lt (pw_pos _))
    rw [← pw_add _ _ (by decide) (by decide), show (110 : Int) + 3090 = 3200 by decide] at y
    rcases Int.lt_or_le (mantI a * mantI b * pw (powI a + powI b - L)) (pw 3200) with g | g
    · exact g
    · have x' := pw_mono (a := powI a + powI b - L) (b := 3089) (by omega) (by omega)
      have y' := Int.mul_le_mul (show mantI a * mantI b ≤ pw 110 by rw [show pw 110 = 1298074214633706907132624082305024 from rfl]; omega) x' (Int.le_of_lt (pw_pos _)) (Int.le_of_lt (pw_pos _))
      rw [← pw_add _ _ (by decide) (by decide), show (110 : Int) + 3089 = 3199 by decide] at y'
      have := pw_half 3200 (by decide)
      rw [show (3200 : Int) - 1 = 3199 by decide] at this
      have := pw_pos 3199
      omega
  · have x' := pw_mono (a := powI c - L) (b := 3130) (by omega) (by omega)
    have y' := Int.mul_le_mul (show mantI c ≤ pw 53 by rw [show pw 53 = 9007199254740992 from rfl]; omega) x' (Int.le_of_lt (pw_pos _)) (Int.le_of_lt (pw_pos _))
    rw [← pw_add _ _ (by decide) (by decide), show (53 : Int) + 3130 = 3183 by decide] at y'
    have z := pw_half 3184 (by decide)
    rw [show (3184 : Int) - 1 = 3183 by decide] at z
    have := pw_mono (a := 3184) (b := 3200) (by decide) (by decide)
    have := pw_pos 3183
    omega
/-- Cases of the kinds. -/
def fmaK (k j l : Int) (s t : Bool) (c fin : Int) : Int :=
  if k = 4 ∨ j = 4 ∨ l = 4 ∨ ((k = 3 ∨ j = 3) ∧ (k = 0 ∨ j = 0)) ∨ ((k = 3 ∨ j = 3) ∧ l = 3 ∧ t ≠ s) then 9221120237041090560
  else if k = 3 ∨ j = 3 then signI s + 9218868437227405312
  else if l = 3 then c
  else if k = 0 ∨ j = 0 then (if l = 0 then signI (s && t) else c)
  else fin
def fmaV (a b c : Int) : Int := fmaK (kindI a) (kindI b) (kindI c) (negB a != negB b) (negB c) c (R2 (sgn (negB a != negB b) (XI a * XI b) + sgn (negB c) (XI c * pw 1074)))
/-- A number, in these units, is itself. -/
theorem R2_self {c : Int} (h : Word c) (hk : kindI c < 3) (h0 : kindI c ≠ 0) : R2 (sgn (negB c) (XI c * pw 1074)) = c := by
  have z := sX_ne h hk h0
  have p := pw_pos 1074
  have q : 1 ≤ XI c * pw 1074 := Int.mul_pos (show 0 < XI c by omega) p
  rw [R2_of _ q, rnd_scale _ (-2148) (by omega) (by decide), show (-2148 : Int) + 1074 = -1074 by decide, rnd_neg, rnd_self c h (fin_of_kind h hk)]
  exact (sign_abs c h)
end Go.Proofs.YtnefacnceemklaaDoor
