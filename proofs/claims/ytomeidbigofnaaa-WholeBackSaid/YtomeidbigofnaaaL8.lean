/-
  The document's naturals: Big, Shl, Shr; layer 2's Shl, Shr, Root.
-/
import Derived.Test.YtomeidbigofnaaaL6
import Derived.Test.YtomeidbigofnaaaL7
namespace Go.Proofs.Ytomeidbigofnaaa
open Go.RowKit Go.Shelf

/-- A natural and an error's number 0. -/
def NatOPost (v : Int) (w : World) (e : Ending) (w' : World) : Prop :=
  ∃ A n c l, e = .returned (.tuple #[.slice A n c, .int .i64 0]) ∧ Sl w' w'.heap.size A n c l ∧ Norm l ∧ natV l = v ∧ Fresh w.heap.size A ∧ Below w.heap.size w w'
theorem NatOPost.mk {A : Option Addr} {n c : Nat} {l : List Int} {v : Int} {w w' : World} (hs : Sl w' w'.heap.size A n c l) (hn : Norm l) (hv : natV l = v) (fr : Fresh w.heap.size A) (hb : Below w.heap.size w w') : NatOPost v w (.returned (.tuple #[.slice A n c, .int .i64 0])) w' := ⟨A, n, c, l, rfl, hs, hn, hv, fr, hb⟩

theorem shl_eq {V n : Int} {j : Nat} (hj : n / 32 = (j : Int)) : pw (32 * (j : Int)) * V * pw (n % 32) = V * pw n := by
  have e : pw n = pw (32 * (j : Int)) * pw (n % 32) := by rw [← pw_add _ _ (by omega) (by omega)]; congr 1; omega
  rw [e, Int.mul_comm _ V, Int.mul_assoc]

theorem mul_mod_le {x n : Int} (hn : 128 ≤ n) : x * pw n % 340282366920938463463374607431768211456 = 0 := by
  have e : pw n = 340282366920938463463374607431768211456 * pw (n - 128) := by
    have := pw_add 128 (n - 128) (by decide) (by omega)
    rw [show 128 + (n - 128) = n by omega, show pw 128 = 340282366920938463463374607431768211456 from rfl] at this; exact this
  rw [e, Int.mul_left_comm]; exact Int.mul_emod_right _ _
end Go.Proofs.Ytomeidbigofnaaa
