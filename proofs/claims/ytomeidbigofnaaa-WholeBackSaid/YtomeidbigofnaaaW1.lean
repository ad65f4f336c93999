/-
  The walks of package wide: Len, Cmp, Shl, Shr.
-/
import Derived.Test.YtomeidbigofnaaaW0
namespace Go.Proofs.Ytomeidbigofnaaa
open Go.RowKit Go.Shelf

theorem bitLenAux_bd : ∀ (f x : Nat), x < 2 ^ f → x < 2 ^ Lib.bitLenAux f x ∧ (x ≠ 0 → 2 ^ Lib.bitLenAux f x ≤ 2 * x) ∧ Lib.bitLenAux f x ≤ f
  | 0, x, h => by
    have : x = 0 := by simpa using h
    subst this; simp [Lib.bitLenAux]
  | f + 1, x, h => by
    unfold Lib.bitLenAux
    by_cases hx : x = 0
    · subst hx; simp
    · rw [if_neg hx]
      obtain ⟨h1, h2, h3⟩ := bitLenAux_bd f (x / 2) (by rw [Nat.pow_succ] at h; omega)
      rw [Nat.add_comm 1, Nat.pow_succ]
      refine ⟨by omega, fun _ => ?_, by omega⟩
      by_cases h0 : x / 2 = 0
      · have : x = 1 := by omega
        subst this
        have e : Lib.bitLenAux f (1 / 2) = 0 := by cases f <;> simp [Lib.bitLenAux]
        rw [e]; decide
      · have := h2 h0; omega
theorem bitLen_bd (x : Nat) (h : x < 18446744073709551616) : x < 2 ^ Lib.bitLen x ∧ (x ≠ 0 → 2 ^ Lib.bitLen x ≤ 2 * x) ∧ Lib.bitLen x ≤ 64 := bitLenAux_bd 64 x h

/-- What Len answers. -/
def LenPost (v : Int) (w : World) (e : Ending) (w' : World) : Prop :=
  ∃ n : Nat, e = .returned (.int .i64 (n : Int)) ∧ n ≤ 128 ∧ v < (2 ^ n : Nat) ∧ (v ≠ 0 → ((2 ^ n : Nat) : Int) ≤ 2 * v) ∧ Below w.heap.size w w'
theorem len_hi (h l : Int) (h1 : Word h) (h2 : Word l) (hh : h ≠ 0) (w w' : World) (hb : Below w.heap.size w w') : LenPost (val h l) w (.returned (.int .i64 (64 + (Lib.bitLen h.toNat : Int)))) w' := by
  unfold Word at *
  obtain ⟨x, rfl⟩ := Int.eq_ofNat_of_zero_le h1.1
  obtain ⟨b1, b2, b3⟩ := bitLen_bd x (by omega)
  have b2 := b2 (by omega)
  refine ⟨64 + Lib.bitLen x, by simp, by omega, ?_, fun _ => ?_, hb⟩
  · rw [Nat.pow_add, show (2 : Nat) ^ 64 = 18446744073709551616 from rfl]; unfold val; generalize 2 ^ Lib.bitLen x = p at *; omega
  · rw [Nat.pow_add, show (2 : Nat) ^ 64 = 18446744073709551616 from rfl]; unfold val; generalize 2 ^ Lib.bitLen x = p at *; omega
theorem len_lo (l : Int) (h2 : Word l) (w w' : World) (hb : Below w.heap.size w w') : LenPost (val 0 l) w (.returned (.int .i64 (Lib.bitLen l.toNat : Int))) w' := by
  unfold Word at *
  obtain ⟨x, rfl⟩ := Int.eq_ofNat_of_zero_le h2.1
  obtain ⟨b1, b2, b3⟩ := bitLen_bd x (by omega)
  refine ⟨Lib.bitLen x, by simp, by omega, ?_, fun hx => ?_, hb⟩
  · unfold val; generalize 2 ^ Lib.bitLen x = p at *; omega
  · unfold val at *; have b2 := b2 (by omega); generalize 2 ^ Lib.bitLen x = p at *; omega

set_option maxHeartbeats 400000 in
theorem len_any (h l : Int) (h1 : Word h) (h2 : Word l) (w : World) :
    Calls Try.prog 54 #[.agg #[.int .u64 h, .int .u64 l]] w (LenPost (val h l) w) := by
  by_cases hh : h = 0
  · subst hh
    have Hm := Lib.hid (len_lo l h2)
    have b := (bitLen_bd l.toNat (by have := h2.1; have := h2.2; omega)).2.2
    have b0 : 0 ≤ l := h2.1
    have b1 : l ≤ 18446744073709551615 := by have := h2.2; omega
    clear h1 h2
    go_enter Try.func54, Try.ntmps54
    go_wp2_with (go_at_call 66; refine (Try.bits_Len64 l _ b0 b1).mono ?_; rintro e w' ⟨rfl, rfl⟩)
    go_ret
    exact Hm.out _ _ ((Below.refl _ _).alloc (Nat.le_refl _) _)
  · have Hm := Lib.hid (len_hi h l h1 h2 hh)
    have b := (bitLen_bd h.toNat (by have := h1.1; have := h1.2; omega)).2.2
    have b0 : 0 ≤ h := h1.1
    have b1 : h ≤ 18446744073709551615 := by have := h1.2; omega
    clear h1 h2
    go_enter Try.func54, Try.ntmps54
    go_wp2_with (go_at_call 66; refine (Try.bits_Len64 h _ b0 b1).mono ?_; rintro e w' ⟨rfl, rfl⟩)
    go_ret
    exact Hm.out _ _ ((Below.refl _ _).alloc (Nat.le_refl _) _)

/-- What Cmp answers. -/
def CmpPost (a b : Int) (w : World) (e : Ending) (w' : World) : Prop :=
  ∃ c : Int, e = .returned (.int .i64 c) ∧ ((c = -1 ∧ a < b) ∨ (c = 0 ∧ a = b) ∨ (c = 1 ∧ b < a)) ∧ Below w.heap.size w w'
end Go.Proofs.Ytomeidbigofnaaa
