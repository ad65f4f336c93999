/-
  The statement RootSquares, walked.
-/
import Derived.Test.YtnefacnceemklaaDoorK22a
import Derived.Test.YtnefacnceemklaaDoorK17
namespace Go.Proofs.YtnefacnceemklaaDoor
open Go.RowKit Go.Shelf

theorem tmod_400 (n : Int) : -400 < n.tmod 400 ∧ n.tmod 400 < 400 := by
  rcases Int.lt_or_le n 0 with h | h
  · have e : n.tmod 400 = -((-n).tmod 400) := by rw [Int.neg_tmod]; omega
    rw [e, Int.tmod_eq_emod_of_nonneg (by omega)]; omega
  · rw [Int.tmod_eq_emod_of_nonneg h]; omega
set_option maxRecDepth 100000 in
set_option maxHeartbeats 8000000 in
theorem squares_any (a n : Int) (ha : Word a) (_hn : -9223372036854775808 ≤ n) (_gn : n ≤ 9223372036854775807) (w : World) (hT : Tabs w) : Calls Tryd.prog 11 #[.int .u64 a, .int .i64 n] w (TruePost w) := by
  have HT0 := Lib.hid hT
  have HB0 : Hid (Below w.heap.size w w) := Below.refl _ _
  have a0 := ha.1
  obtain ⟨k0, k1⟩ := tmod_400 n
  obtain ⟨k, hk⟩ : ∃ k, n.tmod 400 = k := ⟨_, rfl⟩
  rw [hk] at k0 k1
  obtain ⟨A, hA⟩ : ∃ A, a % 33554432 = A := ⟨_, rfl⟩
  have A0 : 0 ≤ A := by omega
  have A1 : A < 33554432 := by omega
  obtain ⟨x, hx⟩ : ∃ x, (33554432 + A) * 134217728 + (k - 52 + 1074) * 4503599627370496 = x := ⟨_, rfl⟩
  obtain ⟨y, h1, wx, wy, h2, h3, h4⟩ := square_main (c := 33554432 + A) (k := k) (x := x) (by omega) (by omega) (by omega) (by omega) hx.symm
  obtain ⟨y0, g1, wx0, wy0, g2, g3, g4⟩ := square_main (c := 33554432) (k := k) (x := (k + 1023) * 4503599627370496) (by decide) (by decide) (by omega) (by omega) (by omega)
  replace g4 := g4 rfl
  clear h4 g3
  have p2 := two_power (n := 2 * k) (by omega) (by omega)
  have p1 := two_power (n := k) (by omega) (by omega)
  rw [← g4] at p2
  clear g4
  obtain ⟨t, ht⟩ : ∃ t, (k + 1023) * 4503599627370496 = t := ⟨_, rfl⟩
  rw [ht] at g2 p1
  obtain ⟨d, hd⟩ : ∃ d, 2 * k = d := ⟨_, rfl⟩
  rw [hd] at p2
  have M := Lib.hid (fun W hT => by have h := times_any x x wx wx W hT; rw [h1] at h; exact h)
  have S := Lib.hid (fun W (_ : Tabs W) => by have h := sqrt5_any y wy W; rw [h2] at h; exact h)
  have V := Lib.hid (fun W (_ : Tabs W) => by have h := div5_any y x wy wx W; rw [h3] at h; exact h)
  have Q2 := Lib.hid (fun W hT => by have h := power5_any 4611686018427387904 d (by decide) (by omega) (by omega) W hT; rw [p2] at h; exact h)
  have S0 := Lib.hid (fun W (_ : Tabs W) => by have h := sqrt5_any y0 wy0 W; rw [g2] at h; exact h)
  have Q1 := Lib.hid (fun W hT => by have h := power5_any 4611686018427387904 k (by decide) (by omega) (by omega) W hT; rw [p1] at h; exact h)
  obtain ⟨E, hE⟩ : ∃ E, 1023 + k = E := ⟨_, rfl⟩
  have E0 : 0 ≤ E := by omega
  have E1 : E ≤ 1500 := by omega
  have wE : IntKind.u64.wrap E = E := by rw [IntKind.wrap_u64]; omega
  have we : IntKind.u64.wrap (E * 4503599627370496) = E * 4503599627370496 := by rw [IntKind.wrap_u64]; omega
  have wA : IntKind.u64.wrap (A * 134217728) = A * 134217728 := by rw [IntKind.wrap_u64]; omega
  have wx1 : IntKind.u64.wrap (E * 4503599627370496 + A * 134217728) = x := by rw [IntKind.wrap_u64]; unfold Word at wx; omega
  clear ha hT hx wx wy h1 h2 h3 g1 g2 wx0 wy0 p1 p2 ht
  go_enter Tryd.func11, Tryd.ntmps11
  go_wp2_with fail
  refine (shown5_any _ HT0.out).mono ?_
  rintro en w1 ⟨rfl, hb1⟩
  have HB1 : Hid (Below w.heap.size w w1) := HB0.out.trans (hb1.mono HB0.out.size)
  have HT1 : Hid (Tabs w1) := HT0.out.below hb1
  clear hb1 HB0 HT0
  go_wp2_with fail
  refine (M.out _ HT1.out).mono ?_
  rintro en w2 ⟨rfl, hb2⟩
  have HB2 : Hid (Below w.heap.size w w2) := HB1.out.trans (hb2.mono HB1.out.size)
  have HT2 : Hid (Tabs w2) := HT1.out.below hb2
  clear hb2 HB1 HT1
  go_wp2_with fail
  refine (S.out _ HT2.out).mono ?_
  rintro en w3 ⟨rfl, hb3⟩
  have HB3 : Hid (Below w.heap.size w w3) := HB2.out.trans (hb3.mono HB2.out.size)
  have HT3 : Hid (Tabs w3) := HT2.out.below hb3
  clear hb3 HB2 HT2
  go_wp2_with fail
  refine (V.out _ HT3.out).mono ?_
  rintro en w4 ⟨rfl, hb4⟩
  have HB4 : Hid (Below w.heap.size w w4) := HB3.out.trans (hb4.mono HB3.out.size)
  have HT4 : Hid (Tabs w4) := HT3.out.below hb4
  clear hb4 HB3 HT3
  go_wp2_with fail
  refine (Q2.out _ HT4.out).mono ?_
  rintro en w5 ⟨rfl, hb5⟩
  have HB5 : Hid (Below w.heap.size w w5) := HB4.out.trans (hb5.mono HB4.out.size)
  have HT5 : Hid (Tabs w5) := HT4.out.below hb5
  clear hb5 HB4 HT4
  go_wp2_with fail
  refine (S0.out _ HT5.out).mono ?_
  rintro en w6 ⟨rfl, hb6⟩
  have HB6 : Hid (Below w.heap.size w w6) := HB5.out.trans (hb6.mono HB5.out.size)
  have HT6 : Hid (Tabs w6) := HT5.out.below hb6
  clear hb6 HB5 HT5
  go_wp2_with fail
  refine (Q1.out _ HT6.out).mono ?_
  rintro en w7 ⟨rfl, hb7⟩
  have HB7 : Hid (Below w.heap.size w w7) := HB6.out.trans (hb7.mono HB6.out.size)
  have HT7 : Hid (Tabs w7) := HT6.out.below hb7
  clear hb7 HB6 HT6
  go_wp2
  go_ret
  exact ⟨by first | rfl | simp, HB7.out⟩
end Go.Proofs.YtnefacnceemklaaDoor
