/-
  Small things that the statements share.
-/
import Derived.Test.YtomeidbigofnaaaW2
namespace Go.Proofs.Ytomeidbigofnaaa
open Go.RowKit Go.Shelf

/-- What the head answers: true; nothing that was there has changed. -/
def TruePost (w : World) (e : Ending) (w' : World) : Prop := e = .returned (.bool true) ∧ Below w.heap.size w w'
instance (x : Int) : Decidable (Word x) := by unfold Word; infer_instance
end Go.Proofs.Ytomeidbigofnaaa
