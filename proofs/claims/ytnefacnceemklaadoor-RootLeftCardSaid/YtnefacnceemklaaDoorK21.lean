/-
  The statement RootLeft, walked.
-/
import Derived.Test.YtnefacnceemklaaDoorK21a
import Derived.Test.YtnefacnceemklaaDoorK17
namespace Go.Proofs.YtnefacnceemklaaDoor
open Go.RowKit Go.Shelf

set_option maxRecDepth 100000 in
set_option maxHeartbeats 8000000 in
theorem left_any (a b : Int) (ha : Word a) (hb : Word b) (w : World) (hT : Tabs w) : Calls Tryd.prog 10 #[.int .u64 a, .int .u64 b] w (TruePost w) := by
  have HT0 := Lib.hid hT
  have HB0 : Hid (Below w.heap.size w w) := Below.refl _ _
  have a0 := ha.1
  have b0 := hb.1
  obtain ⟨A, hA⟩ : ∃ A, a % 4503599627370496 = A := ⟨_, rfl⟩
  obtain ⟨B, hB⟩ : ∃ B, b % 4503599627370496 = B := ⟨_, rfl⟩
  obtain ⟨x, hx⟩ : ∃ x, 4607182418800017408 + A = x := ⟨_, rfl⟩
  obtain ⟨y, hy⟩ : ∃ y, 4607182418800017408 + B = y := ⟨_, rfl⟩
  have wx : Word x := by unfold Word; omega
  have wy : Word y := by unfold Word; omega
  have wrx : IntKind.u64.wrap (4607182418800017408 + A) = x := by rw [IntKind.wrap_u64]; unfold Word at wx; omega
  have wry : IntKind.u64.wrap (4607182418800017408 + B) = y := by rw [IntKind.wrap_u64]; unfold Word at wy; omega
  obtain ⟨p, l, h1, h2, h3, h4, h5, h6⟩ := left_main (x := x) (y := y) (by omega) (by omega) (by omega) (by omega)
  have M := Lib.hid (fun W hT => by have h := times_any x y wx wy W hT; rw [h1] at h; exact h)
  have F := Lib.hid (fun W hT => by have h := fma5_any x y (turnI p) wx wy (turn_word p) W hT; rw [h3] at h; exact h)
  have P := Lib.hid (fun W hT => by have h := plus_any p l h2 h4 W hT; rw [h5] at h; exact h)
  have SL := Lib.hid (fun W => rsplit_any l h4 W)
  have XT := u64_xor_top p h2
  obtain ⟨m0, m1, p0, p1⟩ := mant_bd l h4
  have l0 := h4.1
  unfold absI at h6
  obtain ⟨z, hz⟩ : ∃ z, l % 9223372036854775808 = z := ⟨_, rfl⟩
  rw [hz] at h6
  generalize turnI p = tp at *
  generalize mantI l = m at *
  generalize powI l = e at *
  generalize negB l = s at *
  obtain ⟨t, ht⟩ : ∃ t, (m == 0) = t := ⟨_, rfl⟩
  clear ha hb hT hx hy wx wy h1 h2 h3 h4 h5
  cases t
  all_goals
    go_enter Tryd.func10, Tryd.ntmps10
    go_wp2_with fail
    refine (shown5_any _ HT0.out).mono ?_
    rintro en w1 ⟨rfl, hb1⟩
    have HB1 : Hid (Below w.heap.size w w1) := HB0.out.trans (hb1.mono HB0.out.size)
    have HT1 : Hid (Tabs w1) := HT0.out.below hb1
    clear hb1 HB0 HT0
    go_wp2_with fail
    refine (M.out _ HT1.out).mono ?_
    rintro en w2 ⟨rfl, hb2⟩
    have HB2 : Hid (Below w.heap.size w w2) := HB1.out.trans (hb2.mono HB1.out.size)
    have HT2 : Hid (Tabs w2) := HT1.out.below hb2
    clear hb2 HB1 HT1
    go_wp2_with fail
    refine (F.out _ HT2.out).mono ?_
    rintro en w3 ⟨rfl, hb3⟩
    have HB3 : Hid (Below w.heap.size w w3) := HB2.out.trans (hb3.mono HB2.out.size)
    have HT3 : Hid (Tabs w3) := HT2.out.below hb3
    clear hb3 HB2 HT2
    go_wp2_with fail
    refine (P.out _ HT3.out).mono ?_
    rintro en w4 ⟨rfl, hb4⟩
    have HB4 : Hid (Below w.heap.size w w4) := HB3.out.trans (hb4.mono HB3.out.size)
    have HT4 : Hid (Tabs w4) := HT3.out.below hb4
    clear hb4 HB3 HT3
    go_wp2_with fail
    refine (SL.out _).mono ?_
    rintro en wz ⟨rfl, rfl⟩
    go_wp2
    go_ret
    exact ⟨by first | rfl | simp, HB4.out⟩
end Go.Proofs.YtnefacnceemklaaDoor
