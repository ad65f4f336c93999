/-
  PROVED: for every decimal and every int DecimalNears answers true, with the tables that the program lays: the tied card.
-/
import Derived.Test.YtgjhpcmpgkfnkaaDoorC0
import Derived.Test.YtgjhpcmpgkfnkaaDoorA47
import Derived.Lib.SmallJoins
import Derived.Carry
import Derived.ChangeMaps5
namespace Go.Proofs.YtgjhpcmpgkfnkaaDoor
open Go.ChangeShapes Go.WideShapes Go.ChangeAt Go.RowKit Go.Joins Go.ChangeMaps

set_option maxRecDepth 100000 in
set_option maxHeartbeats 1000000 in
theorem decimalNears_contract (H : Type) (enc : TypeId × Value → H) (W : World) (base : Nat) (args : Array Value) (ds gs : List (DataW H)) (before : List MemPlace)
    (hval : ∀ (j : Nat) t v, Tryd.f8.params[j]? = some t → args[j]? = some v → Value.okWide Tryd.prog W .any base t v)
    (hW : DataW.Whole enc Tryd.prog Tryd.f8.params.toList Rows.decimalNearsSpec.vars false W args.toList ds gs before) (hL : laidMetH Tryd.prog Rows.decimalNearsRow.laid W) :
    Calls Tryd.prog 8 args W fun e W' => ∃ v, e = .returned v ∧ Rows.decimalNearsSpec.post enc Tryd.prog Tryd.f8 false true false false W args v W' := by
  have hW' := hW
  have hT : Tabs W := tabs_of hL
  obtain ⟨p, q, hA0, hV, rfl, _, _⟩ := hW
  have hA : DataW.TrodAll enc Tryd.prog W 0 (fun _ => true) true Tryd.f8.params.toList args.toList ds p := hA0
  rw [Tryd.params8] at hA hval
  obtain ⟨v0, vs0, d0, ds0, p0, q0, hargs0, rfl, rfl, h0, r0⟩ := trodAll_cons hA
  obtain ⟨v1, vs1, d1, ds1, p1, q1, hargs1, rfl, rfl, h1, r1⟩ := trodAll_cons r0
  obtain ⟨rfl, rfl, rfl⟩ := trodAll_nil r1
  subst hargs1
  obtain rfl : args = #[v0, v1] := by cases args; simp_all
  obtain ⟨rfl, rfl⟩ := trodVars_none hV
  obtain ⟨s0a, s0b, s0c, y0a, y0b, y0c, m0, rfl, rfl, rfl, hy0a, hy0b, hy0c⟩ := open_agg3 Tryd.underlying23 (by kernel_rfl) cellsDec (hval 0 23 v0 rfl rfl) h0
  obtain ⟨b0, e0a, rfl⟩ := DataW.trod_bool Tryd.underlying4 hy0a
  obtain ⟨u0, e0b, rfl, ws0⟩ := DataW.trod_string Tryd.underlying9 hy0b
  obtain ⟨x0, e0c, rfl, wx0⟩ := DataW.trod_int Tryd.underlying3 hy0c
  simp at e0a e0b e0c
  subst e0a e0b e0c
  obtain ⟨z1, rfl, rfl, rfl, wf1⟩ := open_int Tryd.underlying3 (hval 1 3 v1 rfl rfl) h1
  clear hA0
  simp only [List.append_nil] at hW'
  refine (decimalNears_any b0 u0 x0 z1 W hT).mono fun e W' ⟨he, hb⟩ => ?_
  subst he
  exact ⟨_, rfl, _, _, _, [], _, [], hW', trodAll_cons_mk (shut_bool Tryd.underlying4 _) trodAll_mk0, trodAll_cons_mk (shut_agg3 (y0 := (.lit (.bool b0), [])) (y1 := (.lit (.string u0.data.toList), [])) (y2 := (.lit (.int .i64 x0), [])) Tryd.underlying23 (by kernel_rfl) cellsDec ⟨1, by simp [DataW.trod, Tryd.underlying4]⟩ ⟨1, by simp [DataW.trod, Tryd.underlying9, ws0]⟩ ⟨1, by simp [DataW.trod, Tryd.underlying3, wx0]⟩) (trodAll_cons_mk (shut_int Tryd.underlying3 wf1) trodAll_mk0), rfl, hb.frame _, fun h => by cases h⟩

theorem decimalNears_laid_met (os : Os) : laidMet Tryd.prog Rows.decimalNearsRow.laid ((laidWorld os #[.agg #[.bool false, .string ⟨#[]⟩, .int .i64 0], .int .i64 0]).forCall (fun _ _ => 0) ⟨#[], #[.agg #[.bool false, .string ⟨#[]⟩, .int .i64 0], .int .i64 0], []⟩).memory :=
  laidMet_of_run' 8 (by kernel_rfl) (by kernel_rfl)
theorem decimalNears_reads (os : Os) {H : Type} (enc : TypeId × Value → H) : ∃ places, DataW.whole enc Tryd.prog ((laidWorld os #[.agg #[.bool false, .string ⟨#[]⟩, .int .i64 0], .int .i64 0]).forCall (fun _ _ => 0) ⟨#[], #[.agg #[.bool false, .string ⟨#[]⟩, .int .i64 0], .int .i64 0], []⟩).memory Tryd.f8.params.toList Rows.decimalNearsSpec.vars false (#[.agg #[.bool false, .string ⟨#[]⟩, .int .i64 0], .int .i64 0] : Array Value).toList 8 = some ([.agg [.lit (.bool false), .lit (.string []), .lit (.int .i64 0)], .lit (.int .i64 0)], [], places) :=
  ⟨[], by kernel_rfl⟩

set_option maxRecDepth 100000 in
theorem decimalNears_lifted (os : Os) (started : os.Started) (H : Type) (enc : TypeId × Value → H) (F : Stop.Interp) :
    ReturnsInHanded {} Tryd.checked os 8 .any ((OpenSpec.ofChange Rows.decimalNearsSpec).preRow enc Tryd.prog Tryd.f8 Rows.decimalNearsRow.domain false Rows.decimalNearsRow.laid) (((OpenSpec.ofChange Rows.decimalNearsSpec).at F).post enc Tryd.prog Tryd.f8 false true false false) := by
  obtain ⟨places, hx⟩ := decimalNears_reads os enc
  refine returnsInHanded_of_row (C := Tryd.checked) (s := OpenSpec.ofChange Rows.decimalNearsSpec) own started (by kernel_rfl) Tryd.func8
    (witness_row_at (enc := enc) (C := Tryd.checked) false (laidWorld os #[.agg #[.bool false, .string ⟨#[]⟩, .int .i64 0], .int .i64 0]) #[.agg #[.bool false, .string ⟨#[]⟩, .int .i64 0], .int .i64 0] rfl (by kernel_rfl) (by kernel_rfl) (by kernel_rfl)
      (OpenSpec.preRow_of_cond 8 hx (by kernel_rfl) (fun k hk => by cases hk) (by kernel_rfl) (decimalNears_laid_met os))) ?_
  intro W base args ds gs before hval hW _ _ _ hL _ _
  exact decimalNears_contract H enc W base args ds gs before hval hW hL

theorem decimalNears_said : Rows.DecimalNearsSaid :=
  OpenClaim.holds_of_cond 8 Tryd.f8 rfl rfl rfl rfl rfl rfl rfl ⟨rfl, rfl, rfl, rfl, rfl⟩ rfl rfl rfl rfl rfl (by kernel_rfl) Tryd.func8 (by kernel_rfl)
    (of_decide_eq_true (by kernel_rfl)) (by unfold Func.isWrapper; first | (rw [if_pos (by decide +kernel)]; kernel_rfl) | (rw [if_neg (by decide +kernel)]; exact ⟨rfl, rfl⟩))
    (fun os started H enc _ F => by rw [OpenClaim.pre_eq_preRow]; exact decimalNears_lifted os started H enc F)

theorem decimalNears_plain (f : FuncId) (fn : Func) (hf : Tryd.pinned.checked.prog.funcNamed "tabard/tabardlaw7.DecimalNears" = some f) (hfn : Tryd.pinned.checked.prog.funcs[f]? = some fn) :
    false = Tryd.pinned.checked.prog.looks [] ∧ ∀ (j : Nat) t, fn.params[j]? = some t → Tryd.pinned.checked.prog.wantsStandIn t = false := by
  obtain rfl : f = 8 := Option.some.inj ((show Tryd.prog.funcNamed "tabard/tabardlaw7.DecimalNears" = some 8 by kernel_rfl).symm.trans hf) |>.symm
  obtain rfl : fn = Tryd.f8 := (Option.some.inj (Tryd.func8.symm.trans hfn)).symm
  refine ⟨by kernel_rfl, fun j t ht => ?_⟩
  rw [Tryd.params8] at ht
  have hm := Array.mem_of_getElem? ht
  rcases (show t = 23 ∨ t = 3 by simp at hm; omega) with rfl | rfl
  · exact (show Tryd.prog.wantsStandIn 23 = false by kernel_rfl)
  · exact (show Tryd.prog.wantsStandIn 3 = false by kernel_rfl)

theorem decimalNears_card : Rows.DecimalNearsCardSaid :=
  Claim7.holds_tied_plain_at .later [] _ _ _ _ decimalNears_said (fun _ h => by cases h) (by kernel_rfl) (fun _ h => by cases h) decimalNears_row_tie rfl ⟨rfl, rfl⟩ (by kernel_rfl) rfl decimalNears_plain (by kernel_rfl)
#print axioms decimalNears_card
end Go.Proofs.YtgjhpcmpgkfnkaaDoor
