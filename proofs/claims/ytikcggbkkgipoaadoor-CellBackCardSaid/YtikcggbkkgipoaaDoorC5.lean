/-
  PROVED: for every reference, every text and every int CellBack answers true, with the tables that the program lays: the tied card.
-/
import Derived.Test.YtikcggbkkgipoaaDoorC0
import Derived.Test.YtikcggbkkgipoaaDoorJ5
import Derived.Lib.SmallJoins
import Derived.Carry
import Derived.ChangeMaps5
namespace Go.Proofs.YtikcggbkkgipoaaDoor
open Go.ChangeShapes Go.WideShapes Go.ChangeAt Go.RowKit Go.Joins Go.ChangeMaps

set_option maxRecDepth 100000 in
set_option maxHeartbeats 1000000 in
theorem cellBack_contract (H : Type) (enc : TypeId × Value → H) (W : World) (base : Nat) (args : Array Value) (ds gs : List (DataW H)) (before : List MemPlace)
    (hval : ∀ (j : Nat) t v, Tryd.f6.params[j]? = some t → args[j]? = some v → Value.okWide Tryd.prog W .any base t v)
    (hW : DataW.Whole enc Tryd.prog Tryd.f6.params.toList Rows.cellBackSpec.vars false W args.toList ds gs before) (hL : laidMetH Tryd.prog Rows.cellBackRow.laid W) :
    Calls Tryd.prog 6 args W fun e W' => ∃ v, e = .returned v ∧ Rows.cellBackSpec.post enc Tryd.prog Tryd.f6 false true false false W args v W' := by
  have hW' := hW
  have hT : Tabs W := tabs_of hL
  obtain ⟨p, q, hA0, hV, rfl, _, _⟩ := hW
  have hA : DataW.TrodAll enc Tryd.prog W 0 (fun _ => true) true Tryd.f6.params.toList args.toList ds p := hA0
  rw [Tryd.params6] at hA hval
  obtain ⟨v0, vs0, d0, ds0, p0, q0, hargs0, rfl, rfl, h0, r0⟩ := trodAll_cons hA
  obtain ⟨v1, vs1, d1, ds1, p1, q1, hargs1, rfl, rfl, h1, r1⟩ := trodAll_cons r0
  obtain ⟨v2, vs2, d2, ds2, p2, q2, hargs2, rfl, rfl, h2, r2⟩ := trodAll_cons r1
  obtain ⟨rfl, rfl, rfl⟩ := trodAll_nil r2
  subst hargs1 hargs2
  obtain rfl : args = #[v0, v1, v2] := by cases args; simp_all
  obtain ⟨rfl, rfl⟩ := trodVars_none hV
  obtain ⟨s0a, s0b, s0c, s0d, y0a, y0b, y0c, y0d, m0, rfl, rfl, rfl, hy0a, hy0b, hy0c, hy0d⟩ := open_agg4 Tryd.underlying23 (by kernel_rfl) cellsRef (hval 0 23 v0 rfl rfl) h0
  obtain ⟨a0, e0a, rfl, wa0⟩ := DataW.trod_int Tryd.underlying3 hy0a
  obtain ⟨b0, e0b, rfl, wb0⟩ := DataW.trod_int Tryd.underlying3 hy0b
  obtain ⟨x0, e0c, rfl⟩ := DataW.trod_bool Tryd.underlying4 hy0c
  obtain ⟨y0, e0d, rfl⟩ := DataW.trod_bool Tryd.underlying4 hy0d
  simp at e0a e0b e0c e0d
  subst e0a e0b e0c e0d
  obtain ⟨z1, rfl, rfl, rfl, wf1⟩ := open_string Tryd.underlying9 (hval 1 9 v1 rfl rfl) h1
  obtain ⟨z2, rfl, rfl, rfl, wf2⟩ := open_int Tryd.underlying3 (hval 2 3 v2 rfl rfl) h2
  clear hA0
  simp only [List.append_nil] at hW'
  refine (cellBack_any a0 b0 x0 y0 z1 z2 (int_of_wf wf2).1 (int_of_wf wf2).2 W hT).mono fun e W' ⟨he, hb⟩ => ?_
  subst he
  exact ⟨_, rfl, _, _, _, [], _, [], hW', trodAll_cons_mk (shut_bool Tryd.underlying4 _) trodAll_mk0, trodAll_cons_mk (shut_agg4 (y0 := (.lit (.int .i64 a0), [])) (y1 := (.lit (.int .i64 b0), [])) (y2 := (.lit (.bool x0), [])) (y3 := (.lit (.bool y0), [])) Tryd.underlying23 (by kernel_rfl) cellsRef ⟨1, by simp [DataW.trod, Tryd.underlying3, wa0]⟩ ⟨1, by simp [DataW.trod, Tryd.underlying3, wb0]⟩ ⟨1, by simp [DataW.trod, Tryd.underlying4]⟩ ⟨1, by simp [DataW.trod, Tryd.underlying4]⟩) (trodAll_cons_mk (shut_string Tryd.underlying9 wf1) (trodAll_cons_mk (shut_int Tryd.underlying3 wf2) trodAll_mk0)), rfl, hb.frame _, fun h => by cases h⟩

theorem cellBack_laid_met (os : Os) : laidMet Tryd.prog Rows.cellBackRow.laid ((laidWorld os #[.agg #[.int .i64 0, .int .i64 0, .bool false, .bool false], .string ⟨#[]⟩, .int .i64 0]).forCall (fun _ _ => 0) ⟨#[], #[.agg #[.int .i64 0, .int .i64 0, .bool false, .bool false], .string ⟨#[]⟩, .int .i64 0], []⟩).memory :=
  laidMet_of_run' 8 (by kernel_rfl) (by kernel_rfl)
theorem cellBack_reads (os : Os) {H : Type} (enc : TypeId × Value → H) : ∃ places, DataW.whole enc Tryd.prog ((laidWorld os #[.agg #[.int .i64 0, .int .i64 0, .bool false, .bool false], .string ⟨#[]⟩, .int .i64 0]).forCall (fun _ _ => 0) ⟨#[], #[.agg #[.int .i64 0, .int .i64 0, .bool false, .bool false], .string ⟨#[]⟩, .int .i64 0], []⟩).memory Tryd.f6.params.toList Rows.cellBackSpec.vars false (#[.agg #[.int .i64 0, .int .i64 0, .bool false, .bool false], .string ⟨#[]⟩, .int .i64 0] : Array Value).toList 8 = some ([.agg [.lit (.int .i64 0), .lit (.int .i64 0), .lit (.bool false), .lit (.bool false)], .lit (.string []), .lit (.int .i64 0)], [], places) :=
  ⟨[], by kernel_rfl⟩

set_option maxRecDepth 100000 in
theorem cellBack_lifted (os : Os) (started : os.Started) (H : Type) (enc : TypeId × Value → H) (F : Stop.Interp) :
    ReturnsInHanded {} Tryd.checked os 6 .any ((OpenSpec.ofChange Rows.cellBackSpec).preRow enc Tryd.prog Tryd.f6 Rows.cellBackRow.domain false Rows.cellBackRow.laid) (((OpenSpec.ofChange Rows.cellBackSpec).at F).post enc Tryd.prog Tryd.f6 false true false false) := by
  obtain ⟨places, hx⟩ := cellBack_reads os enc
  refine returnsInHanded_of_row (C := Tryd.checked) (s := OpenSpec.ofChange Rows.cellBackSpec) own started (by kernel_rfl) Tryd.func6
    (witness_row_at (enc := enc) (C := Tryd.checked) false (laidWorld os #[.agg #[.int .i64 0, .int .i64 0, .bool false, .bool false], .string ⟨#[]⟩, .int .i64 0]) #[.agg #[.int .i64 0, .int .i64 0, .bool false, .bool false], .string ⟨#[]⟩, .int .i64 0] rfl (by kernel_rfl) (by kernel_rfl) (by kernel_rfl)
      (OpenSpec.preRow_of_cond 8 hx (by kernel_rfl) (fun k hk => by cases hk) (by kernel_rfl) (cellBack_laid_met os))) ?_
  intro W base args ds gs before hval hW _ _ _ hL _ _
  exact cellBack_contract H enc W base args ds gs before hval hW hL

theorem cellBack_said : Rows.CellBackSaid :=
  OpenClaim.holds_of_cond 6 Tryd.f6 rfl rfl rfl rfl rfl rfl rfl ⟨rfl, rfl, rfl, rfl, rfl⟩ rfl rfl rfl rfl rfl (by kernel_rfl) Tryd.func6 (by kernel_rfl)
    (of_decide_eq_true (by kernel_rfl)) (by unfold Func.isWrapper; first | (rw [if_pos (by decide +kernel)]; kernel_rfl) | (rw [if_neg (by decide +kernel)]; exact ⟨rfl, rfl⟩))
    (fun os started H enc _ F => by rw [OpenClaim.pre_eq_preRow]; exact cellBack_lifted os started H enc F)

theorem cellBack_plain (f : FuncId) (fn : Func) (hf : Tryd.pinned.checked.prog.funcNamed "tabard/tabardlaw15.CellBack" = some f) (hfn : Tryd.pinned.checked.prog.funcs[f]? = some fn) :
    false = Tryd.pinned.checked.prog.looks [] ∧ ∀ (j : Nat) t, fn.params[j]? = some t → Tryd.pinned.checked.prog.wantsStandIn t = false := by
  obtain rfl : f = 6 := Option.some.inj ((show Tryd.prog.funcNamed "tabard/tabardlaw15.CellBack" = some 6 by kernel_rfl).symm.trans hf) |>.symm
  obtain rfl : fn = Tryd.f6 := (Option.some.inj (Tryd.func6.symm.trans hfn)).symm
  refine ⟨by kernel_rfl, fun j t ht => ?_⟩
  rw [Tryd.params6] at ht
  have hm := Array.mem_of_getElem? ht
  rcases (show t = 23 ∨ t = 9 ∨ t = 3 by simp at hm; omega) with rfl | rfl | rfl
  · exact (show Tryd.prog.wantsStandIn 23 = false by kernel_rfl)
  · exact (show Tryd.prog.wantsStandIn 9 = false by kernel_rfl)
  · exact (show Tryd.prog.wantsStandIn 3 = false by kernel_rfl)

theorem cellBack_card : Rows.CellBackCardSaid :=
  Claim7.holds_tied_plain_at .later [] _ _ _ _ cellBack_said (fun _ h => by cases h) (by kernel_rfl) (fun _ h => by cases h) cellBack_row_tie rfl ⟨rfl, rfl⟩ (by kernel_rfl) rfl cellBack_plain (by kernel_rfl)
#print axioms cellBack_card
end Go.Proofs.YtikcggbkkgipoaaDoor
