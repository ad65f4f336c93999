/-
  PROVED: for every three decimals and every two ints DecimalOrders answers true, with the tables that the program lays: the tied card.
-/
import Derived.Test.YtgjhpcmpgkfnkaaDoorC0
import Derived.Test.YtgjhpcmpgkfnkaaDoorA46
import Derived.Lib.SmallJoins
import Derived.Carry
import Derived.ChangeMaps5
namespace Go.Proofs.YtgjhpcmpgkfnkaaDoor
open Go.ChangeShapes Go.WideShapes Go.ChangeAt Go.RowKit Go.Joins Go.ChangeMaps

set_option maxRecDepth 100000 in
set_option maxHeartbeats 1000000 in
theorem decimalOrders_contract (H : Type) (enc : TypeId × Value → H) (W : World) (base : Nat) (args : Array Value) (ds gs : List (DataW H)) (before : List MemPlace)
    (hval : ∀ (j : Nat) t v, Tryd.f7.params[j]? = some t → args[j]? = some v → Value.okWide Tryd.prog W .any base t v)
    (hW : DataW.Whole enc Tryd.prog Tryd.f7.params.toList Rows.decimalOrdersSpec.vars false W args.toList ds gs before) (hL : laidMetH Tryd.prog Rows.decimalOrdersRow.laid W) :
    Calls Tryd.prog 7 args W fun e W' => ∃ v, e = .returned v ∧ Rows.decimalOrdersSpec.post enc Tryd.prog Tryd.f7 false true false false W args v W' := by
  have hW' := hW
  have hT : Tabs W := tabs_of hL
  obtain ⟨p, q, hA0, hV, rfl, _, _⟩ := hW
  have hA : DataW.TrodAll enc Tryd.prog W 0 (fun _ => true) true Tryd.f7.params.toList args.toList ds p := hA0
  rw [Tryd.params7] at hA hval
  obtain ⟨v0, vs0, d0, ds0, p0, q0, hargs0, rfl, rfl, h0, r0⟩ := trodAll_cons hA
  obtain ⟨v1, vs1, d1, ds1, p1, q1, hargs1, rfl, rfl, h1, r1⟩ := trodAll_cons r0
  obtain ⟨v2, vs2, d2, ds2, p2, q2, hargs2, rfl, rfl, h2, r2⟩ := trodAll_cons r1
  obtain ⟨v3, vs3, d3, ds3, p3, q3, hargs3, rfl, rfl, h3, r3⟩ := trodAll_cons r2
  obtain ⟨v4, vs4, d4, ds4, p4, q4, hargs4, rfl, rfl, h4, r4⟩ := trodAll_cons r3
  obtain ⟨rfl, rfl, rfl⟩ := trodAll_nil r4
  subst hargs1 hargs2 hargs3 hargs4
  obtain rfl : args = #[v0, v1, v2, v3, v4] := by cases args; simp_all
  obtain ⟨rfl, rfl⟩ := trodVars_none hV
  obtain ⟨s0a, s0b, s0c, y0a, y0b, y0c, m0, rfl, rfl, rfl, hy0a, hy0b, hy0c⟩ := open_agg3 Tryd.underlying23 (by kernel_rfl) cellsDec (hval 0 23 v0 rfl rfl) h0
  obtain ⟨b0, e0a, rfl⟩ := DataW.trod_bool Tryd.underlying4 hy0a
  obtain ⟨u0, e0b, rfl, ws0⟩ := DataW.trod_string Tryd.underlying9 hy0b
  obtain ⟨x0, e0c, rfl, wx0⟩ := DataW.trod_int Tryd.underlying3 hy0c
  simp at e0a e0b e0c
  subst e0a e0b e0c
  obtain ⟨s1a, s1b, s1c, y1a, y1b, y1c, m1, rfl, rfl, rfl, hy1a, hy1b, hy1c⟩ := open_agg3 Tryd.underlying23 (by kernel_rfl) cellsDec (hval 1 23 v1 rfl rfl) h1
  obtain ⟨b1, e1a, rfl⟩ := DataW.trod_bool Tryd.underlying4 hy1a
  obtain ⟨u1, e1b, rfl, ws1⟩ := DataW.trod_string Tryd.underlying9 hy1b
  obtain ⟨x1, e1c, rfl, wx1⟩ := DataW.trod_int Tryd.underlying3 hy1c
  simp at e1a e1b e1c
  subst e1a e1b e1c
  obtain ⟨s2a, s2b, s2c, y2a, y2b, y2c, m2, rfl, rfl, rfl, hy2a, hy2b, hy2c⟩ := open_agg3 Tryd.underlying23 (by kernel_rfl) cellsDec (hval 2 23 v2 rfl rfl) h2
  obtain ⟨b2, e2a, rfl⟩ := DataW.trod_bool Tryd.underlying4 hy2a
  obtain ⟨u2, e2b, rfl, ws2⟩ := DataW.trod_string Tryd.underlying9 hy2b
  obtain ⟨x2, e2c, rfl, wx2⟩ := DataW.trod_int Tryd.underlying3 hy2c
  simp at e2a e2b e2c
  subst e2a e2b e2c
  obtain ⟨z3, rfl, rfl, rfl, wf3⟩ := open_int Tryd.underlying3 (hval 3 3 v3 rfl rfl) h3
  obtain ⟨z4, rfl, rfl, rfl, wf4⟩ := open_int Tryd.underlying3 (hval 4 3 v4 rfl rfl) h4
  clear hA0
  simp only [List.append_nil] at hW'
  refine (decimalOrders_any b0 u0 x0 b1 u1 x1 b2 u2 x2 z3 z4 W hT).mono fun e W' ⟨he, hb⟩ => ?_
  subst he
  exact ⟨_, rfl, _, _, _, [], _, [], hW', trodAll_cons_mk (shut_bool Tryd.underlying4 _) trodAll_mk0, trodAll_cons_mk (shut_agg3 (y0 := (.lit (.bool b0), [])) (y1 := (.lit (.string u0.data.toList), [])) (y2 := (.lit (.int .i64 x0), [])) Tryd.underlying23 (by kernel_rfl) cellsDec ⟨1, by simp [DataW.trod, Tryd.underlying4]⟩ ⟨1, by simp [DataW.trod, Tryd.underlying9, ws0]⟩ ⟨1, by simp [DataW.trod, Tryd.underlying3, wx0]⟩) (trodAll_cons_mk (shut_agg3 (y0 := (.lit (.bool b1), [])) (y1 := (.lit (.string u1.data.toList), [])) (y2 := (.lit (.int .i64 x1), [])) Tryd.underlying23 (by kernel_rfl) cellsDec ⟨1, by simp [DataW.trod, Tryd.underlying4]⟩ ⟨1, by simp [DataW.trod, Tryd.underlying9, ws1]⟩ ⟨1, by simp [DataW.trod, Tryd.underlying3, wx1]⟩) (trodAll_cons_mk (shut_agg3 (y0 := (.lit (.bool b2), [])) (y1 := (.lit (.string u2.data.toList), [])) (y2 := (.lit (.int .i64 x2), [])) Tryd.underlying23 (by kernel_rfl) cellsDec ⟨1, by simp [DataW.trod, Tryd.underlying4]⟩ ⟨1, by simp [DataW.trod, Tryd.underlying9, ws2]⟩ ⟨1, by simp [DataW.trod, Tryd.underlying3, wx2]⟩) (trodAll_cons_mk (shut_int Tryd.underlying3 wf3) (trodAll_cons_mk (shut_int Tryd.underlying3 wf4) trodAll_mk0)))), rfl, hb.frame _, fun h => by cases h⟩

theorem decimalOrders_laid_met (os : Os) : laidMet Tryd.prog Rows.decimalOrdersRow.laid ((laidWorld os #[.agg #[.bool false, .string ⟨#[]⟩, .int .i64 0], .agg #[.bool false, .string ⟨#[]⟩, .int .i64 0], .agg #[.bool false, .string ⟨#[]⟩, .int .i64 0], .int .i64 0, .int .i64 0]).forCall (fun _ _ => 0) ⟨#[], #[.agg #[.bool false, .string ⟨#[]⟩, .int .i64 0], .agg #[.bool false, .string ⟨#[]⟩, .int .i64 0], .agg #[.bool false, .string ⟨#[]⟩, .int .i64 0], .int .i64 0, .int .i64 0], []⟩).memory :=
  laidMet_of_run' 8 (by kernel_rfl) (by kernel_rfl)
theorem decimalOrders_reads (os : Os) {H : Type} (enc : TypeId × Value → H) : ∃ places, DataW.whole enc Tryd.prog ((laidWorld os #[.agg #[.bool false, .string ⟨#[]⟩, .int .i64 0], .agg #[.bool false, .string ⟨#[]⟩, .int .i64 0], .agg #[.bool false, .string ⟨#[]⟩, .int .i64 0], .int .i64 0, .int .i64 0]).forCall (fun _ _ => 0) ⟨#[], #[.agg #[.bool false, .string ⟨#[]⟩, .int .i64 0], .agg #[.bool false, .string ⟨#[]⟩, .int .i64 0], .agg #[.bool false, .string ⟨#[]⟩, .int .i64 0], .int .i64 0, .int .i64 0], []⟩).memory Tryd.f7.params.toList Rows.decimalOrdersSpec.vars false (#[.agg #[.bool false, .string ⟨#[]⟩, .int .i64 0], .agg #[.bool false, .string ⟨#[]⟩, .int .i64 0], .agg #[.bool false, .string ⟨#[]⟩, .int .i64 0], .int .i64 0, .int .i64 0] : Array Value).toList 8 = some ([.agg [.lit (.bool false), .lit (.string []), .lit (.int .i64 0)], .agg [.lit (.bool false), .lit (.string []), .lit (.int .i64 0)], .agg [.lit (.bool false), .lit (.string []), .lit (.int .i64 0)], .lit (.int .i64 0), .lit (.int .i64 0)], [], places) :=
  ⟨[], by kernel_rfl⟩

set_option maxRecDepth 100000 in
theorem decimalOrders_lifted (os : Os) (started : os.Started) (H : Type) (enc : TypeId × Value → H) (F : Stop.Interp) :
    ReturnsInHanded {} Tryd.checked os 7 .any ((OpenSpec.ofChange Rows.decimalOrdersSpec).preRow enc Tryd.prog Tryd.f7 Rows.decimalOrdersRow.domain false Rows.decimalOrdersRow.laid) (((OpenSpec.ofChange Rows.decimalOrdersSpec).at F).post enc Tryd.prog Tryd.f7 false true false false) := by
  obtain ⟨places, hx⟩ := decimalOrders_reads os enc
  refine returnsInHanded_of_row (C := Tryd.checked) (s := OpenSpec.ofChange Rows.decimalOrdersSpec) own started (by kernel_rfl) Tryd.func7
    (witness_row_at (enc := enc) (C := Tryd.checked) false (laidWorld os #[.agg #[.bool false, .string ⟨#[]⟩, .int .i64 0], .agg #[.bool false, .string ⟨#[]⟩, .int .i64 0], .agg #[.bool false, .string ⟨#[]⟩, .int .i64 0], .int .i64 0, .int .i64 0]) #[.agg #[.bool false, .string ⟨#[]⟩, .int .i64 0], .agg #[.bool false, .string ⟨#[]⟩, .int .i64 0], .agg #[.bool false, .string ⟨#[]⟩, .int .i64 0], .int .i64 0, .int .i64 0] rfl (by kernel_rfl) (by kernel_rfl) (by kernel_rfl)
      (OpenSpec.preRow_of_cond 8 hx (by kernel_rfl) (fun k hk => by cases hk) (by kernel_rfl) (decimalOrders_laid_met os))) ?_
  intro W base args ds gs before hval hW _ _ _ hL _ _
  exact decimalOrders_contract H enc W base args ds gs before hval hW hL

theorem decimalOrders_said : Rows.DecimalOrdersSaid :=
  OpenClaim.holds_of_cond 7 Tryd.f7 rfl rfl rfl rfl rfl rfl rfl ⟨rfl, rfl, rfl, rfl, rfl⟩ rfl rfl rfl rfl rfl (by kernel_rfl) Tryd.func7 (by kernel_rfl)
    (of_decide_eq_true (by kernel_rfl)) (by unfold Func.isWrapper; first | (rw [if_pos (by decide +kernel)]; kernel_rfl) | (rw [if_neg (by decide +kernel)]; exact ⟨rfl, rfl⟩))
    (fun os started H enc _ F => by rw [OpenClaim.pre_eq_preRow]; exact decimalOrders_lifted os started H enc F)

theorem decimalOrders_plain (f : FuncId) (fn : Func) (hf : Tryd.pinned.checked.prog.funcNamed "tabard/tabardlaw7.DecimalOrders" = some f) (hfn : Tryd.pinned.checked.prog.funcs[f]? = some fn) :
    false = Tryd.pinned.checked.prog.looks [] ∧ ∀ (j : Nat) t, fn.params[j]? = some t → Tryd.pinned.checked.prog.wantsStandIn t = false := by
  obtain rfl : f = 7 := Option.some.inj ((show Tryd.prog.funcNamed "tabard/tabardlaw7.DecimalOrders" = some 7 by kernel_rfl).symm.trans hf) |>.symm
  obtain rfl : fn = Tryd.f7 := (Option.some.inj (Tryd.func7.symm.trans hfn)).symm
  refine ⟨by kernel_rfl, fun j t ht => ?_⟩
  rw [Tryd.params7] at ht
  have hm := Array.mem_of_getElem? ht
  rcases (show t = 23 ∨ t = 3 by simp at hm; omega) with rfl | rfl
  · exact (show Tryd.prog.wantsStandIn 23 = false by kernel_rfl)
  · exact (show Tryd.prog.wantsStandIn 3 = false by kernel_rfl)

theorem decimalOrders_card : Rows.DecimalOrdersCardSaid :=
  Claim7.holds_tied_plain_at .later [] _ _ _ _ decimalOrders_said (fun _ h => by cases h) (by kernel_rfl) (fun _ h => by cases h) decimalOrders_row_tie rfl ⟨rfl, rfl⟩ (by kernel_rfl) rfl decimalOrders_plain (by kernel_rfl)
#print axioms decimalOrders_card
end Go.Proofs.YtgjhpcmpgkfnkaaDoor
