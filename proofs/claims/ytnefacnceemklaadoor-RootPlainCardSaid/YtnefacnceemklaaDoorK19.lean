/-
  The statement RootPlain, walked.
-/
import Derived.Test.YtnefacnceemklaaDoorK19a
import Derived.Test.YtnefacnceemklaaDoorK17
namespace Go.Proofs.YtnefacnceemklaaDoor
open Go.RowKit Go.Shelf

set_option maxRecDepth 100000 in
set_option maxHeartbeats 8000000 in
theorem plain5_any (a b : Int) (ha : Word a) (hb : Word b) (w : World) (hT : Tabs w) : Calls Tryd.prog 8 #[.int .u64 a, .int .u64 b] w (TruePost w) := by
  obtain ⟨k, hk⟩ : ∃ z, kindI a = z := ⟨_, rfl⟩
  have bk := kind_bd a
  rw [hk] at bk
  have HT0 := Lib.hid hT
  have HB0 : Hid (Below w.heap.size w w) := Below.refl _ _
  have D1 := Lib.hid (fun W (_ : Tabs W) => by have h := div5_any a 4607182418800017408 ha (by decide) W; rw [div_one ha] at h; exact h)
  have D2 := Lib.hid (fun W (_ : Tabs W) => by have h := div5_any a a ha ha W; rw [div_self ha, hk] at h; exact h)
  have RG := Lib.hid (fun W => rright_any a ha W)
  have KA := Lib.hid (fun W => rkind_vars a k ha hk W)
  have F1 := Lib.hid (fun W hT => by have h := fma5_any a 4607182418800017408 b ha (by decide) hb W hT; rw [fma_one ha hb] at h; exact h)
  have A1 := Lib.hid (fun W hT => plus_any a b ha hb W hT)
  have M1 := Lib.hid (fun W hT => times_any a b ha hb W hT)
  have F2 := Lib.hid (fun W hT => by have h := fma5_any a b 9223372036854775808 ha hb (by decide) W hT; rw [fma_none ha hb] at h; exact h)
  generalize rightI a = r at *
  generalize addV a b = s at *
  generalize mulV a b = p at *
  clear ha hb hT hk
  have ck : k = 0 ∨ k = 1 ∨ k = 2 ∨ k = 3 ∨ k = 4 := by omega
  clear bk
  rcases ck with rfl | rfl | rfl | rfl | rfl
  all_goals
    simp at D2
    go_enter Tryd.func8, Tryd.ntmps8
    go_wp2_with fail
    refine (shown5_any _ HT0.out).mono ?_
    rintro en w1 ⟨rfl, hb1⟩
    have HB1 : Hid (Below w.heap.size w w1) := HB0.out.trans (hb1.mono HB0.out.size)
    have HT1 : Hid (Tabs w1) := HT0.out.below hb1
    clear hb1 HB0 HT0
    go_wp2_with fail
    refine (D1.out _ HT1.out).mono ?_
    rintro en w2 ⟨rfl, hb2⟩
    have HB2 : Hid (Below w.heap.size w w2) := HB1.out.trans (hb2.mono HB1.out.size)
    have HT2 : Hid (Tabs w2) := HT1.out.below hb2
    clear hb2 HB1 HT1
    go_wp2_with fail
    refine (RG.out _).mono ?_
    rintro en wz ⟨rfl, rfl⟩
    go_wp2_with fail
    refine (KA.out _).mono ?_
    rintro en wz ⟨rfl, rfl⟩
    go_wp2_with fail
    refine (D2.out _ HT2.out).mono ?_
    rintro en w3 ⟨rfl, hb3⟩
    have HB3 : Hid (Below w.heap.size w w3) := HB2.out.trans (hb3.mono HB2.out.size)
    have HT3 : Hid (Tabs w3) := HT2.out.below hb3
    clear hb3 HB2 HT2
    go_wp2_with fail
    refine (F1.out _ HT3.out).mono ?_
    rintro en w4 ⟨rfl, hb4⟩
    have HB4 : Hid (Below w.heap.size w w4) := HB3.out.trans (hb4.mono HB3.out.size)
    have HT4 : Hid (Tabs w4) := HT3.out.below hb4
    clear hb4 HB3 HT3
    go_wp2_with fail
    refine (A1.out _ HT4.out).mono ?_
    rintro en w5 ⟨rfl, hb5⟩
    have HB5 : Hid (Below w.heap.size w w5) := HB4.out.trans (hb5.mono HB4.out.size)
    have HT5 : Hid (Tabs w5) := HT4.out.below hb5
    clear hb5 HB4 HT4
    go_wp2_with fail
    refine (M1.out _ HT5.out).mono ?_
    rintro en w6 ⟨rfl, hb6⟩
    have HB6 : Hid (Below w.heap.size w w6) := HB5.out.trans (hb6.mono HB5.out.size)
    have HT6 : Hid (Tabs w6) := HT5.out.below hb6
    clear hb6 HB5 HT5
    go_wp2_with fail
    refine (F2.out _ HT6.out).mono ?_
    rintro en w7 ⟨rfl, hb7⟩
    have HB7 : Hid (Below w.heap.size w w7) := HB6.out.trans (hb7.mono HB6.out.size)
    have HT7 : Hid (Tabs w7) := HT6.out.below hb7
    clear hb7 HB6 HT6
    go_wp2
    go_ret
    exact ⟨by first | rfl | simp, HB7.out⟩
end Go.Proofs.YtnefacnceemklaaDoor
