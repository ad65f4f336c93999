/-
  The document's Whole and From of layer 6: walked; whole.Whole by any way.
-/
import Derived.Test.YtnefacnceemklaaDoorG10
import Derived.Test.YtnefacnceemklaaDoorG8
namespace Go.Proofs.YtnefacnceemklaaDoor
open Go.RowKit Go.Shelf

theorem whole_at (x y : Int) (h : Word x) (h0 : 0 ≤ y) (h5 : y ≤ 5) (w : World) : Calls Tryd.prog 30 #[.int .u64 x, .int .i64 y] w (WholePost (wholeV y x) 0 w) := by
  obtain rfl | rfl | rfl | rfl | rfl | rfl : y = 0 ∨ y = 1 ∨ y = 2 ∨ y = 3 ∨ y = 4 ∨ y = 5 := by omega
  · exact whole0 x h w
  · exact whole1 x h w
  · exact whole2 x h w
  · exact whole3 x h w
  · exact whole4 x h w
  · exact whole5 x h w
end Go.Proofs.YtnefacnceemklaaDoor
