/-
  What Join makes of a number's parts and a little more or less: the arithmetic of the statement FloatNexts.
-/
import Derived.Test.YtcalkaeogogcbaaF5
namespace Go.Proofs.Ytcalkaeogogcbaa
open Go.RowKit Go.Shelf

theorem size_of {v : Int} {k : Nat} (h0 : 0 < v) (hv : v < 18446744073709551616) (h1 : ((2 ^ k : Nat) : Int) ≤ v) (h2 : v < ((2 ^ (k + 1) : Nat) : Int)) : (Lib.bitLen v.toNat : Int) = k + 1 := by
  obtain ⟨a, b, _⟩ := bitLen_bd v.toNat (by omega)
  have b := b (by omega)
  have : Lib.bitLen v.toNat = k + 1 := len_unique (v := v) (by generalize 2 ^ Lib.bitLen v.toNat = z at *; omega) (by generalize 2 ^ Lib.bitLen v.toNat = z at *; omega) h2 (by rw [Nat.pow_succ]; omega)
  rw [this]; rfl
theorem size_le {v : Int} {k : Nat} (h0 : 0 < v) (hv : v < 18446744073709551616) (h2 : v < ((2 ^ k : Nat) : Int)) : (Lib.bitLen v.toNat : Int) ≤ k := by
  obtain ⟨a, b, _⟩ := bitLen_bd v.toNat (by omega)
  have b := b (by omega)
  have : 2 ^ Lib.bitLen v.toNat < 2 ^ (k + 1) := by rw [Nat.pow_succ]; generalize 2 ^ Lib.bitLen v.toNat = z at *; omega
  have := (Nat.pow_lt_pow_iff_right (by decide)).1 this
  omega
theorem size_ge0 (v : Int) : 0 ≤ (Lib.bitLen v.toNat : Int) := by omega

/-- A number of at most 63 bits is joined as it is. -/
theorem JoinPost.small {neg more : Bool} {v e : Int} (h0 : 0 < v) (h1 : v < 9223372036854775808) :
    ∀ (w : World) (en : Ending) (w' : World), JoinPost neg v e more w en w' → en = .returned (.int .u64 (nearI neg v 0 e (Lib.bitLen v.toNat) more)) ∧ Below w.heap.size w w' := by
  rintro w en w' ⟨m, over, top, size, lost, hm, h3, h4, rfl, rfl, hl, rfl, rfl, hb⟩
  have h4 := h4 (by omega)
  have hm2 : m ≤ 63 := by
    have : 2 ^ m < 2 ^ 64 := by have e : (2 : Nat) ^ 64 = 18446744073709551616 := rfl; rw [e]; generalize 2 ^ m = z at *; omega
    have := (Nat.pow_lt_pow_iff_right (by decide)).1 this
    omega
  have e0 : max ((m : Int) - 64) 0 = 0 := by omega
  rw [e0] at hl ⊢
  have e1 : pw 0 = 1 := rfl
  rw [e1, Int.ediv_one]
  rw [e1] at hl
  have hl2 : lost = false := hl.2 (by omega)
  refine ⟨?_, hb⟩
  rw [hl2, Bool.or_false]

theorem pack0 (v : Int) (more : Bool) (h0 : 0 ≤ v) (h1 : v < 18446744073709551616) : packI v 0 more = v := by
  unfold packI
  rw [if_pos (by omega), show min (-(0 : Int)).toNat 64 = 0 from rfl, Int.pow_zero, Int.mul_one, IntKind.wrap_u64, Int.emod_eq_of_lt h0 h1]
theorem pack1 (v : Int) (more : Bool) : packI v 1 more = if (v % 2 != 0) && (more || (v / 2 % 2 != 0)) then v / 2 + 1 else v / 2 := by
  unfold packI roundI
  rw [if_neg (by omega), show pw 1 = 2 from rfl, show (1 : Int) - 1 = 0 from rfl, show pw 0 = 1 from rfl, Int.emod_one]
  simp
theorem pack2m (v : Int) : packI v 2 true = if (v % 4 != v % 2) then v / 4 + 1 else v / 4 := by
  unfold packI roundI
  rw [if_neg (by omega), show pw 2 = 4 from rfl, show (2 : Int) - 1 = 1 from rfl, show pw 1 = 2 from rfl]
  simp

/-- A little less than the number, and a little more: the number. -/
theorem near_less (x : Int) (h : Word x) (hp : expI x < 2047) (hz : absI x ≠ 0) : nearI true (4 * mantI x - 1) 0 (powI x - 2) (Lib.bitLen (4 * mantI x - 1).toNat) true = 9223372036854775808 + absI x := by
  obtain ⟨e, a, b, c, d⟩ := abs_parts x h
  rw [e] at hz
  have hm : mantI x = if expI x = 0 then fracI x else 4503599627370496 + fracI x := by unfold mantI; rw [if_neg (by omega)]
  have hq : powI x = if expI x = 0 then -1074 else expI x - 1075 := by unfold powI; rw [if_neg (by omega)]
  rw [e, hm, hq]
  generalize expI x = p at *
  generalize fracI x = f at *
  clear e hm hq
  by_cases c0 : p = 0
  · rw [if_pos c0, if_pos c0]
    have hs := size_le (v := 4 * f - 1) (k := 54) (by omega) (by omega) (by have : (((2 ^ 54 : Nat)) : Int) = 18014398509481984 := rfl; omega)
    have hs0 := size_ge0 (4 * f - 1)
    generalize (Lib.bitLen (4 * f - 1).toNat : Int) = s at *
    unfold nearI lastI
    rw [if_neg (by omega), if_neg (by omega), show max (-1074 - 2 + 0 + s - 52 - 1) (-1074) = -1074 by omega, show (-1074 : Int) - (-1074 - 2 + 0) = 2 by omega, pack2m, if_pos (by simp; omega)]
    unfold signI; rw [if_pos rfl]; omega
  · rw [if_neg c0, if_neg c0]
    by_cases c1 : f = 0
    · subst c1
      have hs : (Lib.bitLen (4 * (4503599627370496 + (0 : Int)) - 1).toNat : Int) = 54 := by decide +kernel
      rw [hs]
      unfold nearI lastI
      by_cases c2 : p = 1
      · subst c2; decide +kernel
      · rw [if_neg (by omega), if_neg (by omega), show max (p - 1075 - 2 + 0 + 54 - 52 - 1) (-1074) = p - 1076 by omega, show p - 1076 - (p - 1075 - 2 + 0) = 1 by omega, pack1, if_pos (by decide)]
        unfold signI; rw [if_pos rfl]; omega
    · have hs := size_of (v := 4 * (4503599627370496 + f) - 1) (k := 54) (by omega) (by omega) (by have : (((2 ^ 54 : Nat)) : Int) = 18014398509481984 := rfl; omega) (by have : (((2 ^ (54 + 1) : Nat)) : Int) = 36028797018963968 := rfl; omega)
      rw [hs]
      unfold nearI lastI
      rw [if_neg (by omega), if_neg (by omega), show max (p - 1075 - 2 + 0 + (((54 : Nat) : Int) + 1) - 52 - 1) (-1074) = p - 1075 by omega, show p - 1075 - (p - 1075 - 2 + 0) = 2 by omega, pack2m, if_pos (by simp; omega)]
      unfold signI; rw [if_pos rfl]; omega
/-- One more in the last place is the next number. -/
theorem near_next (x : Int) (h : Word x) (hp : expI x < 2047) (hz : absI x ≠ 0) (hm2 : absI x ≠ 9218868437227405311) : nearI false (mantI x + 1) 0 (powI x) (Lib.bitLen (mantI x + 1).toNat) false = absI x + 1 := by
  obtain ⟨e, a, b, c, d⟩ := abs_parts x h
  rw [e] at hz hm2
  have hm : mantI x = if expI x = 0 then fracI x else 4503599627370496 + fracI x := by unfold mantI; rw [if_neg (by omega)]
  have hq : powI x = if expI x = 0 then -1074 else expI x - 1075 := by unfold powI; rw [if_neg (by omega)]
  rw [e, hm, hq]
  generalize expI x = p at *
  generalize fracI x = f at *
  clear e hm hq
  by_cases c0 : p = 0
  · rw [if_pos c0, if_pos c0]
    have hs := size_le (v := f + 1) (k := 53) (by omega) (by omega) (by have : (((2 ^ 53 : Nat)) : Int) = 9007199254740992 := rfl; omega)
    have hs0 := size_ge0 (f + 1)
    generalize (Lib.bitLen (f + 1).toNat : Int) = s at *
    unfold nearI lastI
    rw [if_neg (by omega), if_neg (by omega), show max (-1074 + 0 + s - 52 - 1) (-1074) = -1074 by omega, show (-1074 : Int) - (-1074 + 0) = 0 by omega, pack0 _ _ (by omega) (by omega)]
    show 0 + _ = _
    omega
  · rw [if_neg c0, if_neg c0]
    by_cases c1 : f = 4503599627370495
    · subst c1
      have hs : (Lib.bitLen (4503599627370496 + (4503599627370495 : Int) + 1).toNat : Int) = 54 := by decide +kernel
      rw [hs]
      unfold nearI lastI
      rw [if_neg (by omega), if_neg (by omega), show max (p - 1075 + 0 + 54 - 52 - 1) (-1074) = p - 1074 by omega, show p - 1074 - (p - 1075 + 0) = 1 by omega, pack1, if_neg (by decide)]
      show 0 + _ = _
      omega
    · have hs := size_of (v := 4503599627370496 + f + 1) (k := 52) (by omega) (by omega) (by have : (((2 ^ 52 : Nat)) : Int) = 4503599627370496 := rfl; omega) (by have : (((2 ^ (52 + 1) : Nat)) : Int) = 9007199254740992 := rfl; omega)
      rw [hs]
      unfold nearI lastI
      rw [if_neg (by omega), if_neg (by omega), show max (p - 1075 + 0 + (((52 : Nat) : Int) + 1) - 52 - 1) (-1074) = p - 1075 by omega, show p - 1075 - (p - 1075 + 0) = 0 by omega, pack0 _ _ (by omega) (by omega)]
      show 0 + _ = _
      omega
end Go.Proofs.Ytcalkaeogogcbaa
