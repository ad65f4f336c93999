/-
  The document's Nat, Whole and From of layer 6: walked.
-/
import Derived.Test.YtnefacnceemklaaDoorG9
namespace Go.Proofs.YtnefacnceemklaaDoor
open Go.RowKit Go.Shelf

/-- The whole number without a sign that a way gives. -/
def natX (y x : Int) : Int := wholI x + (if upX y x = true then 1 else 0)
def Nat6Post (s : Bool) (v : Int) (w : World) (e : Ending) (w' : World) : Prop :=
  ∃ A n c l, e = .returned (.tuple #[.bool s, .slice A n c]) ∧ Sl w' w'.heap.size A n c l ∧ Norm l ∧ n ≤ 41 ∧ natV l = v ∧ Below w.heap.size w w'
theorem nat_len {w : World} {B : Nat} {A : Option Addr} {n c : Nat} {l : List Int} {v : Int} (h : Sl w B A n c l) (hn : Norm l) (hv : natV l = v) (hb : v ≤ pw (32 * ((40 : Nat) : Int))) : n ≤ 41 := by
  rw [← h.len]
  refine norm_len h.lim hn ?_
  have a := pw_succ (32 * ((40 : Nat) : Int)) (by decide)
  have b := pw_mono (a := 32 * ((40 : Nat) : Int) + 1) (b := 32 * ((41 : Nat) : Int)) (by decide) (by decide)
  have c := pw_pos (32 * ((40 : Nat) : Int))
  omega

end Go.Proofs.YtnefacnceemklaaDoor
