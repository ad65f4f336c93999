/-
  What the row's list gives: the two tables, cell by cell; and a world that holds them.
-/
import Derived.Test.YtnefacnceemklaaDoorCards
import Derived.Test.YtnefacnceemklaaDoorTie
import Derived.Test.YtnefacnceemklaaDoorX2
import Derived.WalkKit
import Derived.ProofKit
import Derived.OpenShut
import Derived.Deep.DeepHandedRow
import Derived.Lib.LaidTab
import Derived.MakeChecks
namespace Go.Proofs.YtnefacnceemklaaDoor
open Go.ChangeShapes Go.WideShapes Go.ChangeAt Go.RowKit

theorem own : ownKnob Tryd.prog.godebug = none := by kernel_rfl
theorem gSums : Tryd.prog.globalNamed "tabard/arith.sums" = some 0 := by kernel_rfl
theorem gProducts : Tryd.prog.globalNamed "tabard/arith.products" = some 1 := by kernel_rfl
theorem tSums : (Tryd.prog.globals[0]?).map (·.type) = some 66 := by kernel_rfl
theorem tProducts : (Tryd.prog.globals[1]?).map (·.type) = some 66 := by kernel_rfl
theorem cells66 : Tryd.prog.cellsOf 66 = 25 := by kernel_rfl
theorem cells65 : Tryd.prog.cellsOf 65 = 5 := by kernel_rfl
theorem cells3 : Tryd.prog.cellsOf 3 = 1 := by kernel_rfl

theorem mat_cells {cs : List Value} {fuel base : Nat} {sp : Nat → Bool} {held : Bool} {p : List MemPlace} {w : World} {enc : TypeId × Value → Unit} (zss : List (List Int))
    (h : DataW.trod enc Tryd.prog w base sp held fuel 66 cs = some (.agg (zss.map fun zs => Lib.tabData .i64 zs), p)) :
    ∀ i j : Nat, i < 5 → j < 5 → cs[i * 5 + j]? = ((zss.getD i []).map fun z => Value.int .i64 z)[j]? := by
  intro i j hi hj
  obtain ⟨xs, m, rfl, hx, hl, hn, hel⟩ := DataW.trod_array Tryd.underlying66 h
  have he := hel i hi
  have hxs := congrArg Prod.fst hx
  simp only [DataW.agg.injEq] at hxs
  have hi2 : i < xs.length := by omega
  have hz : (zss.map fun zs => (Lib.tabData .i64 zs : DataW Unit))[i]? = some (xs[i].1) := by
    rw [hxs, List.getElem?_map, List.getElem?_eq_getElem hi2]; rfl
  rw [List.getElem?_map] at hz
  obtain ⟨zs, hzs, hzd⟩ := Option.map_eq_some_iff.1 hz
  rw [cells65, List.getElem?_eq_getElem hi2] at he
  have hc := Lib.cells_of_tab (zs := zs) (p := xs[i].2) Tryd.underlying65 Tryd.underlying3 cells3 cells65 (by rw [he, hzd])
  have e1 : zss.getD i [] = zs := by simp [hzs]
  rw [e1, ← hc, List.getElem?_take, if_pos hj, List.getElem?_drop]

/-- The tables of the row stand in the memory. -/
theorem tabs_of {W : World} (h : laidMetH Tryd.prog [("tabard/arith.sums", Rows.laid_tabard_arith_sums), ("tabard/arith.products", Rows.laid_tabard_arith_products)] W) : Tabs W := by
  rw [MakeChecks.laidMetH_plain _ _ _ (by kernel_rfl)] at h
  obtain ⟨ps, ⟨g0, t0, cs0, f0, p0, q0, hg0, ht0, hv0, hd0, ⟨g1, t1, cs1, f1, p1, q1, hg1, ht1, hv1, hd1, _, _⟩, _⟩, _, _⟩ := h
  obtain rfl := Option.some.inj (gSums.symm.trans hg0)
  obtain rfl := Option.some.inj (gProducts.symm.trans hg1)
  obtain rfl := Option.some.inj (tSums.symm.trans ht0)
  obtain rfl := Option.some.inj (tProducts.symm.trans ht1)
  have m0 := mat_cells [[6, 3, 3, 3, 1], [2, 0, 0, 3, 1], [2, 0, 0, 3, 1], [2, 2, 2, 7, 1], [1, 1, 1, 1, 1]] hd0
  have m1 := mat_cells [[5, 5, 5, 1, 1], [5, 0, 0, 4, 1], [5, 0, 0, 4, 1], [1, 4, 4, 4, 1], [1, 1, 1, 1, 1]] hd1
  have c0 : ∀ n : Nat, n < 25 → W.cell? ⟨0, n, none⟩ = some (.int .i64 (sumL.getD n 0)) := by
    intro n hn
    rw [World.var?_cell hg0 hv0 n, ← Array.getElem?_toList]
    have := m0 (n / 5) (n % 5) (by omega) (by omega)
    rw [show n / 5 * 5 + n % 5 = n by omega] at this
    rw [this, List.getElem?_map, (show ∀ n : Nat, n < 25 → (([[6, 3, 3, 3, 1], [2, 0, 0, 3, 1], [2, 0, 0, 3, 1], [2, 2, 2, 7, 1], [1, 1, 1, 1, 1]] : List (List Int)).getD (n / 5) [])[n % 5]? = some (sumL.getD n 0) by decide) n hn]
    rfl
  have c1 : ∀ n : Nat, n < 25 → W.cell? ⟨1, n, none⟩ = some (.int .i64 (prodL.getD n 0)) := by
    intro n hn
    rw [World.var?_cell hg1 hv1 n, ← Array.getElem?_toList]
    have := m1 (n / 5) (n % 5) (by omega) (by omega)
    rw [show n / 5 * 5 + n % 5 = n by omega] at this
    rw [this, List.getElem?_map, (show ∀ n : Nat, n < 25 → (([[5, 5, 5, 1, 1], [5, 0, 0, 4, 1], [5, 0, 0, 4, 1], [1, 4, 4, 4, 1], [1, 1, 1, 1, 1]] : List (List Int)).getD (n / 5) [])[n % 5]? = some (prodL.getD n 0) by decide) n hn]
    rfl
  refine ⟨?_, c0, c1⟩
  have := c1 0 (by decide)
  unfold World.cell? at this
  rcases Nat.lt_or_ge 1 W.heap.size with hs | hs
  · exact hs
  · rw [Array.getElem?_eq_none (by omega)] at this; cases this

/-- A world for the witness: the settled one, the tables holding what their initialisers lay. -/
def lay (l : List Int) : Obj → Obj
  | .cells _ t frozen => .cells (l.map fun z => Value.int .i64 z).toArray t frozen
  | o => o
noncomputable def laidWorld (os : Os) (args : Array Value) : World :=
  { World.holding Tryd.prog os ⟨#[], args, []⟩ with heap := Array.modify (Array.modify (World.holding Tryd.prog os ⟨#[], args, []⟩).heap 0 (lay sumL)) 1 (lay prodL) }
end Go.Proofs.YtnefacnceemklaaDoor
