/-
  PROVED: for every three references CellCovers answers true, with the tables that the program lays: the tied card.
-/
import Derived.Test.YtikcggbkkgipoaaDoorC0
import Derived.Test.YtikcggbkkgipoaaDoorJ6
import Derived.Lib.SmallJoins
import Derived.Carry
namespace Go.Proofs.YtikcggbkkgipoaaDoor
open Go.ChangeShapes Go.WideShapes Go.ChangeAt Go.RowKit Go.Joins

set_option maxRecDepth 100000 in
set_option maxHeartbeats 1000000 in
theorem cellCovers_contract (H : Type) (enc : TypeId × Value → H) (W : World) (base : Nat) (args : Array Value) (ds gs : List (DataW H)) (before : List MemPlace)
    (hval : ∀ (j : Nat) t v, Tryd.f7.params[j]? = some t → args[j]? = some v → Value.okWide Tryd.prog W .any base t v)
    (hW : DataW.Whole enc Tryd.prog Tryd.f7.params.toList Rows.cellCoversSpec.vars false W args.toList ds gs before) (hL : laidMetH Tryd.prog Rows.cellCoversRow.laid W) :
    Calls Tryd.prog 7 args W fun e W' => ∃ v, e = .returned v ∧ Rows.cellCoversSpec.post enc Tryd.prog Tryd.f7 false true false false W args v W' := by
  have hW' := hW
  have hT : Tabs W := tabs_of hL
  obtain ⟨p, q, hA0, hV, rfl, _, _⟩ := hW
  have hA : DataW.TrodAll enc Tryd.prog W 0 (fun _ => true) true Tryd.f7.params.toList args.toList ds p := hA0
  rw [Tryd.params7] at hA hval
  obtain ⟨v0, vs0, d0, ds0, p0, q0, hargs0, rfl, rfl, h0, r0⟩ := trodAll_cons hA
  obtain ⟨v1, vs1, d1, ds1, p1, q1, hargs1, rfl, rfl, h1, r1⟩ := trodAll_cons r0
  obtain ⟨v2, vs2, d2, ds2, p2, q2, hargs2, rfl, rfl, h2, r2⟩ := trodAll_cons r1
  obtain ⟨rfl, rfl, rfl⟩ := trodAll_nil r2
  subst hargs1 hargs2
  obtain rfl : args = #[v0, v1, v2] := by cases args; simp_all
  obtain ⟨rfl, rfl⟩ := trodVars_none hV
  obtain ⟨s0a, s0b, s0c, s0d, y0a, y0b, y0c, y0d, m0, rfl, rfl, rfl, hy0a, hy0b, hy0c, hy0d⟩ := open_agg4 Tryd.underlying23 (by kernel_rfl) cellsRef (hval 0 23 v0 rfl rfl) h0
  obtain ⟨a0, e0a, rfl, wa0⟩ := DataW.trod_int Tryd.underlying3 hy0a
  obtain ⟨b0, e0b, rfl, wb0⟩ := DataW.trod_int Tryd.underlying3 hy0b
  obtain ⟨x0, e0c, rfl⟩ := DataW.trod_bool Tryd.underlying4 hy0c
  obtain ⟨y0, e0d, rfl⟩ := DataW.trod_bool Tryd.underlying4 hy0d
  simp at e0a e0b e0c e0d
  subst e0a e0b e0c e0d
  obtain ⟨s1a, s1b, s1c, s1d, y1a, y1b, y1c, y1d, m1, rfl, rfl, rfl, hy1a, hy1b, hy1c, hy1d⟩ := open_agg4 Tryd.underlying23 (by kernel_rfl) cellsRef (hval 1 23 v1 rfl rfl) h1
  obtain ⟨a1, e1a, rfl, wa1⟩ := DataW.trod_int Tryd.underlying3 hy1a
  obtain ⟨b1, e1b, rfl, wb1⟩ := DataW.trod_int Tryd.underlying3 hy1b
  obtain ⟨x1, e1c, rfl⟩ := DataW.trod_bool Tryd.underlying4 hy1c
  obtain ⟨y1, e1d, rfl⟩ := DataW.trod_bool Tryd.underlying4 hy1d
  simp at e1a e1b e1c e1d
  subst e1a e1b e1c e1d
  obtain ⟨s2a, s2b, s2c, s2d, y2a, y2b, y2c, y2d, m2, rfl, rfl, rfl, hy2a, hy2b, hy2c, hy2d⟩ := open_agg4 Tryd.underlying23 (by kernel_rfl) cellsRef (hval 2 23 v2 rfl rfl) h2
  obtain ⟨a2, e2a, rfl, wa2⟩ := DataW.trod_int Tryd.underlying3 hy2a
  obtain ⟨b2, e2b, rfl, wb2⟩ := DataW.trod_int Tryd.underlying3 hy2b
  obtain ⟨x2, e2c, rfl⟩ := DataW.trod_bool Tryd.underlying4 hy2c
  obtain ⟨y2, e2d, rfl⟩ := DataW.trod_bool Tryd.underlying4 hy2d
  simp at e2a e2b e2c e2d
  subst e2a e2b e2c e2d
  clear hA0
  simp only [List.append_nil] at hW'
  refine (cellCovers_any a0 b0 a1 b1 a2 b2 x0 y0 x1 y1 x2 y2 W hT).mono fun e W' ⟨he, hb⟩ => ?_
  subst he
  exact ⟨_, rfl, _, _, _, [], _, [], hW', trodAll_cons_mk (shut_bool Tryd.underlying4 _) trodAll_mk0, trodAll_cons_mk (shut_agg4 (y0 := (.lit (.int .i64 a0), [])) (y1 := (.lit (.int .i64 b0), [])) (y2 := (.lit (.bool x0), [])) (y3 := (.lit (.bool y0), [])) Tryd.underlying23 (by kernel_rfl) cellsRef ⟨1, by simp [DataW.trod, Tryd.underlying3, wa0]⟩ ⟨1, by simp [DataW.trod, Tryd.underlying3, wb0]⟩ ⟨1, by simp [DataW.trod, Tryd.underlying4]⟩ ⟨1, by simp [DataW.trod, Tryd.underlying4]⟩) (trodAll_cons_mk (shut_agg4 (y0 := (.lit (.int .i64 a1), [])) (y1 := (.lit (.int .i64 b1), [])) (y2 := (.lit (.bool x1), [])) (y3 := (.lit (.bool y1), [])) Tryd.underlying23 (by kernel_rfl) cellsRef ⟨1, by simp [DataW.trod, Tryd.underlying3, wa1]⟩ ⟨1, by simp [DataW.trod, Tryd.underlying3, wb1]⟩ ⟨1, by simp [DataW.trod, Tryd.underlying4]⟩ ⟨1, by simp [DataW.trod, Tryd.underlying4]⟩) (trodAll_cons_mk (shut_agg4 (y0 := (.lit (.int .i64 a2), [])) (y1 := (.lit (.int .i64 b2), [])) (y2 := (.lit (.bool x2), [])) (y3 := (.lit (.bool y2), [])) Tryd.underlying23 (by kernel_rfl) cellsRef ⟨1, by simp [DataW.trod, Tryd.underlying3, wa2]⟩ ⟨1, by simp [DataW.trod, Tryd.underlying3, wb2]⟩ ⟨1, by simp [DataW.trod, Tryd.underlying4]⟩ ⟨1, by simp [DataW.trod, Tryd.underlying4]⟩) trodAll_mk0)), rfl, hb.frame _, fun h => by cases h⟩

theorem cellCovers_laid_met (os : Os) : laidMet Tryd.prog Rows.cellCoversRow.laid ((laidWorld os #[.agg #[.int .i64 0, .int .i64 0, .bool false, .bool false], .agg #[.int .i64 0, .int .i64 0, .bool false, .bool false], .agg #[.int .i64 0, .int .i64 0, .bool false, .bool false]]).forCall (fun _ _ => 0) ⟨#[], #[.agg #[.int .i64 0, .int .i64 0, .bool false, .bool false], .agg #[.int .i64 0, .int .i64 0, .bool false, .bool false], .agg #[.int .i64 0, .int .i64 0, .bool false, .bool false]], []⟩).memory :=
  laidMet_of_run' 8 (by kernel_rfl) (by kernel_rfl)
theorem cellCovers_reads (os : Os) {H : Type} (enc : TypeId × Value → H) : ∃ places, DataW.whole enc Tryd.prog ((laidWorld os #[.agg #[.int .i64 0, .int .i64 0, .bool false, .bool false], .agg #[.int .i64 0, .int .i64 0, .bool false, .bool false], .agg #[.int .i64 0, .int .i64 0, .bool false, .bool false]]).forCall (fun _ _ => 0) ⟨#[], #[.agg #[.int .i64 0, .int .i64 0, .bool false, .bool false], .agg #[.int .i64 0, .int .i64 0, .bool false, .bool false], .agg #[.int .i64 0, .int .i64 0, .bool false, .bool false]], []⟩).memory Tryd.f7.params.toList Rows.cellCoversSpec.vars false (#[.agg #[.int .i64 0, .int .i64 0, .bool false, .bool false], .agg #[.int .i64 0, .int .i64 0, .bool false, .bool false], .agg #[.int .i64 0, .int .i64 0, .bool false, .bool false]] : Array Value).toList 8 = some ([.agg [.lit (.int .i64 0), .lit (.int .i64 0), .lit (.bool false), .lit (.bool false)], .agg [.lit (.int .i64 0), .lit (.int .i64 0), .lit (.bool false), .lit (.bool false)], .agg [.lit (.int .i64 0), .lit (.int .i64 0), .lit (.bool false), .lit (.bool false)]], [], places) :=
  ⟨[], by kernel_rfl⟩

set_option maxRecDepth 100000 in
theorem cellCovers_lifted (os : Os) (started : os.Started) (H : Type) (enc : TypeId × Value → H) (F : Stop.Interp) :
    ReturnsInHanded {} Tryd.checked os 7 .any ((OpenSpec.ofChange Rows.cellCoversSpec).preRow enc Tryd.prog Tryd.f7 Rows.cellCoversRow.domain false Rows.cellCoversRow.laid) (((OpenSpec.ofChange Rows.cellCoversSpec).at F).post enc Tryd.prog Tryd.f7 false true false false) := by
  obtain ⟨places, hx⟩ := cellCovers_reads os enc
  refine returnsInHanded_of_row (C := Tryd.checked) (s := OpenSpec.ofChange Rows.cellCoversSpec) own started (by kernel_rfl) Tryd.func7
    (witness_row_at (enc := enc) (C := Tryd.checked) false (laidWorld os #[.agg #[.int .i64 0, .int .i64 0, .bool false, .bool false], .agg #[.int .i64 0, .int .i64 0, .bool false, .bool false], .agg #[.int .i64 0, .int .i64 0, .bool false, .bool false]]) #[.agg #[.int .i64 0, .int .i64 0, .bool false, .bool false], .agg #[.int .i64 0, .int .i64 0, .bool false, .bool false], .agg #[.int .i64 0, .int .i64 0, .bool false, .bool false]] rfl (by kernel_rfl) (by kernel_rfl) (by kernel_rfl)
      (OpenSpec.preRow_of_cond 8 hx (by kernel_rfl) (fun k hk => by cases hk) (by kernel_rfl) (cellCovers_laid_met os))) ?_
  intro W base args ds gs before hval hW _ _ _ hL _ _
  exact cellCovers_contract H enc W base args ds gs before hval hW hL

theorem cellCovers_said : Rows.CellCoversSaid :=
  OpenClaim.holds_of_cond 7 Tryd.f7 rfl rfl rfl rfl rfl rfl rfl ⟨rfl, rfl, rfl, rfl, rfl⟩ rfl rfl rfl rfl rfl (by kernel_rfl) Tryd.func7 (by kernel_rfl)
    (of_decide_eq_true (by kernel_rfl)) (by unfold Func.isWrapper; first | (rw [if_pos (by decide +kernel)]; kernel_rfl) | (rw [if_neg (by decide +kernel)]; exact ⟨rfl, rfl⟩))
    (fun os started H enc _ F => by rw [OpenClaim.pre_eq_preRow]; exact cellCovers_lifted os started H enc F)

theorem cellCovers_plain (f : FuncId) (fn : Func) (hf : Tryd.pinned.checked.prog.funcNamed "tabard/tabardlaw15.CellCovers" = some f) (hfn : Tryd.pinned.checked.prog.funcs[f]? = some fn) :
    false = Tryd.pinned.checked.prog.looks [] ∧ ∀ (j : Nat) t, fn.params[j]? = some t → Tryd.pinned.checked.prog.wantsStandIn t = false := by
  obtain rfl : f = 7 := Option.some.inj ((show Tryd.prog.funcNamed "tabard/tabardlaw15.CellCovers" = some 7 by kernel_rfl).symm.trans hf) |>.symm
  obtain rfl : fn = Tryd.f7 := (Option.some.inj (Tryd.func7.symm.trans hfn)).symm
  refine ⟨by kernel_rfl, fun j t ht => ?_⟩
  rw [Tryd.params7] at ht
  obtain rfl : t = 23 := by simpa using Array.mem_of_getElem? ht
  exact (show Tryd.prog.wantsStandIn 23 = false by kernel_rfl)

theorem cellCovers_card : Rows.CellCoversCardSaid :=
  Claim7.holds_tied_plain_at .later [] _ _ _ _ cellCovers_said (fun _ h => by cases h) (by kernel_rfl) (fun _ h => by cases h) cellCovers_row_tie rfl ⟨rfl, rfl⟩ (by kernel_rfl) rfl cellCovers_plain (by kernel_rfl)
#print axioms cellCovers_card
end Go.Proofs.YtikcggbkkgipoaaDoor
