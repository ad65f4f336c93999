/-
  PROVED: for every number of two words, every word, every number of three words and every int WideTimes answers true: the products of 192 bits and what is dropped of them are the document's own, by naturals. No condition.
-/
import Derived.Test.YtogldkjhcmlneaaD5
import Derived.ProofKit
import Derived.Lib.SmallJoins
import Derived.Carry
namespace Go.Proofs.Ytogldkjhcmlneaa
open Go.ChangeShapes Go.WideShapes Go.ChangeAt Go.RowKit Go.Joins

theorem Try.own : ownKnob Try.prog.godebug = none := by kernel_rfl
theorem Try.cells24 : Try.prog.cellsOf 24 = 2 := by kernel_rfl
theorem Try.cells56 : Try.prog.cellsOf 56 = 3 := by kernel_rfl
theorem word_of_wf {x : Int} (h : (Lit.int .u64 x).wf = true) : Word x := by
  simp [Lit.wf, IntKind.min, IntKind.max, IntKind.signed, IntKind.bits] at h
  exact ⟨by omega, by omega⟩
theorem int_of_wf {x : Int} (h : (Lit.int .i64 x).wf = true) : -9223372036854775808 ≤ x ∧ x ≤ 9223372036854775807 := by
  simp [Lit.wf, IntKind.min, IntKind.max, IntKind.signed, IntKind.bits] at h
  omega

set_option maxRecDepth 100000 in
theorem wideTimes_lifted (os : Os) (started : os.Started) (H : Type) (enc : TypeId × Value → H) :
    ReturnsInHanded {} Try.checked os 5 .any (Rows.wideTimesSpec.pre6 enc Try.prog Try.f5 Rows.wideTimesRow.domain false) (Rows.wideTimesSpec.post enc Try.prog Try.f5 false true false false) := by
  refine returnsInHanded_of_change (C := Try.checked) Try.own started (by kernel_rfl) Try.func5
    (ChangeSpec.witness6 (enc := enc) (C := Try.checked) false ⟨#[], #[.agg #[.int .u64 0, .int .u64 0], .int .u64 0, .agg #[.int .u64 0, .int .u64 0, .int .u64 0], .int .i64 0], []⟩ 8 (by kernel_rfl) (by kernel_rfl) (by kernel_rfl) (by kernel_rfl)) ?_
  intro W base args ds gs before hval0 hW _ _
  have hval : ∀ (j : Nat) t v, Try.f5.params[j]? = some t → args[j]? = some v → Value.okWide Try.prog W .any base t v := hval0
  have hW' := hW
  obtain ⟨p, q, hA0, hV, rfl, _, _⟩ := hW
  have hA : DataW.TrodAll enc Try.prog W 0 (fun _ => true) true Try.f5.params.toList args.toList ds p := hA0
  rw [Try.params5] at hA hval
  obtain ⟨v0, v1, v2, v3, d0, d1, d2, d3, p0, p1, p2, p3, rfl, rfl, rfl, h0, h1, h2, h3⟩ := trodAll_four hA
  obtain ⟨rfl, rfl⟩ := trodVars_none hV
  obtain ⟨c0a, c0b, y0a, y0b, m0, rfl, rfl, rfl, hy0a, hy0b⟩ := open_agg2 Try.underlying24 (by kernel_rfl) Try.cells24 (hval 0 24 v0 rfl rfl) h0
  obtain ⟨a0, e0a, rfl, wa0⟩ := DataW.trod_int Try.underlying22 hy0a
  obtain ⟨b0, e0b, rfl, wb0⟩ := DataW.trod_int Try.underlying22 hy0b
  simp at e0a e0b
  subst e0a e0b
  obtain ⟨n1, rfl, rfl, rfl, wn1⟩ := open_int Try.underlying22 (hval 1 22 v1 rfl rfl) h1
  obtain ⟨c2a, c2b, c2c, y2a, y2b, y2c, m2, rfl, rfl, rfl, hy2a, hy2b, hy2c⟩ := open_agg3 Try.underlying56 (by kernel_rfl) Try.cells56 (hval 2 56 v2 rfl rfl) h2
  obtain ⟨a2, e2a, rfl, wa2⟩ := DataW.trod_int Try.underlying22 hy2a
  obtain ⟨b2, e2b, rfl, wb2⟩ := DataW.trod_int Try.underlying22 hy2b
  obtain ⟨g2, e2c, rfl, wc2⟩ := DataW.trod_int Try.underlying22 hy2c
  simp at e2a e2b e2c
  subst e2a e2b e2c
  obtain ⟨n3, rfl, rfl, rfl, wn3⟩ := open_int Try.underlying3 (hval 3 3 v3 rfl rfl) h3
  clear hA0 hval0
  simp only [List.append_nil] at hW'
  refine (timesl_any a0 b0 n1 a2 b2 g2 n3 (word_of_wf wa0) (word_of_wf wb0) (word_of_wf wn1) (word_of_wf wa2) (word_of_wf wb2) (word_of_wf wc2) (int_of_wf wn3).1 (int_of_wf wn3).2 W).mono fun e W' ⟨he, hb⟩ => ?_
  subst he
  exact ⟨_, rfl, _, _, _, [], [], [], hW', trodAll_mk1 (shut_bool Try.underlying4 _), trodAll_mk4 (shut_agg2 (y0 := (.lit (.int .u64 a0), [])) (y1 := (.lit (.int .u64 b0), [])) Try.underlying24 (by kernel_rfl) Try.cells24 ⟨1, by simp [DataW.trod, Try.underlying22, wa0]⟩ ⟨1, by simp [DataW.trod, Try.underlying22, wb0]⟩) (shut_int Try.underlying22 wn1) (shut_agg3 (y0 := (.lit (.int .u64 a2), [])) (y1 := (.lit (.int .u64 b2), [])) (y2 := (.lit (.int .u64 g2), [])) Try.underlying56 (by kernel_rfl) Try.cells56 ⟨1, by simp [DataW.trod, Try.underlying22, wa2]⟩ ⟨1, by simp [DataW.trod, Try.underlying22, wb2]⟩ ⟨1, by simp [DataW.trod, Try.underlying22, wc2]⟩) (shut_int Try.underlying3 wn3), rfl, hb.frame _, fun h => by cases h⟩

theorem wideTimes_holds : Rows.WideTimesSaid :=
  OpenClaim.holds_of_wide 5 Try.f5 rfl rfl rfl rfl rfl rfl rfl ⟨rfl, rfl, rfl, rfl, rfl⟩ rfl rfl rfl rfl rfl (by kernel_rfl) Try.func5 (by kernel_rfl)
    (of_decide_eq_true (by kernel_rfl)) (by unfold Func.isWrapper; first | (rw [if_pos (by decide +kernel)]; kernel_rfl) | (rw [if_neg (by decide +kernel)]; exact ⟨rfl, rfl⟩))
    (fun os started H enc _ => wideTimes_lifted os started H enc)
#print axioms wideTimes_holds
end Go.Proofs.Ytogldkjhcmlneaa
