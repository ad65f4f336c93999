/-
  The statements ArithPlain and ArithExact, walked.
-/
import Derived.Test.YtgaaaokhggeglaaDoorA10
namespace Go.Proofs.YtgaaaokhggeglaaDoor
open Go.RowKit Go.Shelf

set_option maxRecDepth 100000 in
set_option maxHeartbeats 4000000 in
theorem plain_any (a : Int) (h1 : Word a) (w : World) (hT : Tabs w) : Calls Tryd.prog 4 #[.int .u64 a] w (TruePost w) := by
  obtain ⟨x, hx⟩ : ∃ z, rightI a = z := ⟨_, rfl⟩
  obtain ⟨t, ht⟩ : ∃ z, addV a a = z := ⟨_, rfl⟩
  obtain ⟨n, hn⟩ : ∃ z, negI a = z := ⟨_, rfl⟩
  obtain ⟨k, hk⟩ : ∃ z, kindI a = z := ⟨_, rfl⟩
  have RR : Hid (∀ w, Calls Tryd.prog 12 #[.int .u64 a] w fun e w' => e = .returned (.int .u64 x) ∧ w = w') := fun w => by rw [← hx]; exact rright_any a h1 w
  have KK := Lib.hid (rkind_vars a k h1 hk)
  have M1 := Lib.hid (times_vars a 4607182418800017408 x h1 (by decide) ((mul_one h1).trans hx))
  have A1 := Lib.hid (plus_vars a a t h1 h1 ht)
  have M2 := Lib.hid (times_vars a 4611686018427387904 t h1 (by decide) ((add_twice h1).symm.trans ht))
  have M3 := Lib.hid (times_vars a 13830554455654793216 n h1 (by decide) ((mul_minus h1).trans hn))
  have N1 := Lib.hid (rneg_vars a n h1 hn)
  have HT0 := Lib.hid hT
  have HB0 : Hid (Below w.heap.size w w) := Below.refl _ _
  have xa : k ≠ 4 → x = a := fun h => by rw [← hx]; exact right_eq (by omega)
  have S1 := Lib.hid (minus_vars a a _ h1 h1 (sub_self h1))
  have Z1 : Hid (a = 9223372036854775808 ∨ ∀ w, Tabs w → Calls Tryd.prog 8 #[.int .u64 a, .int .u64 0] w (WordPost x w)) := by
    rcases add_zero h1 with h | h
    · exact .inl h
    · exact .inr (plus_vars a 0 x h1 (by decide) (h.trans hx))
  have Z2 : Hid (k ≠ 4 → ∀ w, Tabs w → Calls Tryd.prog 8 #[.int .u64 a, .int .u64 9223372036854775808] w (WordPost a w)) := fun h =>
    plus_vars a 9223372036854775808 a h1 (by decide) (add_negzero h1 (by omega))
  have kz : a = 9223372036854775808 → k < 3 := by rintro rfl; rw [← hk]; decide
  rw [hk] at S1
  clear hx ht hn hk hT
  have a0 := h1.1
  clear h1
  go_enter Tryd.func4, Tryd.ntmps4
  go_wp2_with fail
  refine (shown4_any _ HT0.out).mono ?_
  rintro en w1 ⟨rfl, hb1⟩
  have HB1 : Hid (Below w.heap.size w w1) := HB0.out.trans (hb1.mono HB0.out.size)
  have HT1 : Hid (Tabs w1) := HT0.out.below hb1
  clear hb1 HB0 HT0
  go_wp2_with fail
  refine (RR.out _).mono ?_
  rintro en wz ⟨rfl, rfl⟩
  go_wp2_with fail
  refine (M1.out _ HT1.out).mono ?_
  rintro en w2 ⟨rfl, hb2⟩
  have HB2 : Hid (Below w.heap.size w w2) := HB1.out.trans (hb2.mono HB1.out.size)
  have HT2 : Hid (Tabs w2) := HT1.out.below hb2
  clear hb2 HB1 HT1
  go_wp2_with fail
  refine (A1.out _ HT2.out).mono ?_
  rintro en w3 ⟨rfl, hb3⟩
  have HB3 : Hid (Below w.heap.size w w3) := HB2.out.trans (hb3.mono HB2.out.size)
  have HT3 : Hid (Tabs w3) := HT2.out.below hb3
  clear hb3 HB2 HT2
  go_wp2_with fail
  refine (M2.out _ HT3.out).mono ?_
  rintro en w4 ⟨rfl, hb4⟩
  have HB4 : Hid (Below w.heap.size w w4) := HB3.out.trans (hb4.mono HB3.out.size)
  have HT4 : Hid (Tabs w4) := HT3.out.below hb4
  clear hb4 HB3 HT3
  go_wp2_with fail
  refine (M3.out _ HT4.out).mono ?_
  rintro en w5 ⟨rfl, hb5⟩
  have HB5 : Hid (Below w.heap.size w w5) := HB4.out.trans (hb5.mono HB4.out.size)
  have HT5 : Hid (Tabs w5) := HT4.out.below hb5
  clear hb5 HB4 HT4
  go_wp2_with fail
  refine (N1.out _).mono ?_
  rintro en wz ⟨rfl, rfl⟩
  go_wp2_with fail
  refine (KK.out _).mono ?_
  rintro en wz ⟨rfl, rfl⟩
  by_cases c3 : 3 ≤ k
  · have hz : a ≠ 9223372036854775808 := fun e => by have := kz e; omega
    have Z1 := Lib.hid (Z1.out.resolve_left hz)
    rw [if_pos c3] at S1
    clear Z2 kz xa hz
    go_wp2_with fail
    refine (S1.out _ HT5.out).mono ?_
    rintro en w6 ⟨rfl, hb6⟩
    have HB6 : Hid (Below w.heap.size w w6) := HB5.out.trans (hb6.mono HB5.out.size)
    have HT6 : Hid (Tabs w6) := HT5.out.below hb6
    clear hb6 HB5 HT5
    go_wp2_with fail
    refine (Z1.out _ HT6.out).mono ?_
    rintro en w7 ⟨rfl, hb7⟩
    have HB7 : Hid (Below w.heap.size w w7) := HB6.out.trans (hb7.mono HB6.out.size)
    have HT7 : Hid (Tabs w7) := HT6.out.below hb7
    clear hb7 HB6 HT6
    go_wp2
    go_ret
    exact ⟨rfl, HB7.out⟩
  · obtain rfl : x = a := xa (by omega)
    have Z2 := Lib.hid (Z2.out (by omega))
    rw [if_neg c3] at S1
    rcases Z1.out with h | h
    · have hb : (x == 9223372036854775808) = true := by simpa using h
      clear Z1 kz xa h
      go_wp2_with fail
      refine (S1.out _ HT5.out).mono ?_
      rintro en w6 ⟨rfl, hb6⟩
      have HB6 : Hid (Below w.heap.size w w6) := HB5.out.trans (hb6.mono HB5.out.size)
      have HT6 : Hid (Tabs w6) := HT5.out.below hb6
      clear hb6 HB5 HT5
      go_wp2_with fail
      refine (Z2.out _ HT6.out).mono ?_
      rintro en w7 ⟨rfl, hb7⟩
      have HB7 : Hid (Below w.heap.size w w7) := HB6.out.trans (hb7.mono HB6.out.size)
      have HT7 : Hid (Tabs w7) := HT6.out.below hb7
      clear hb7 HB6 HT6
      go_wp2
      go_ret
      exact ⟨rfl, HB7.out⟩
    · have Z1 := Lib.hid h
      clear kz xa h
      rcases Bool.eq_false_or_eq_true (x == 9223372036854775808) with hb | hb
      · clear Z1
        go_wp2_with fail
        refine (S1.out _ HT5.out).mono ?_
        rintro en w6 ⟨rfl, hb6⟩
        have HB6 : Hid (Below w.heap.size w w6) := HB5.out.trans (hb6.mono HB5.out.size)
        have HT6 : Hid (Tabs w6) := HT5.out.below hb6
        clear hb6 HB5 HT5
        go_wp2_with fail
        refine (Z2.out _ HT6.out).mono ?_
        rintro en w7 ⟨rfl, hb7⟩
        have HB7 : Hid (Below w.heap.size w w7) := HB6.out.trans (hb7.mono HB6.out.size)
        have HT7 : Hid (Tabs w7) := HT6.out.below hb7
        clear hb7 HB6 HT6
        go_wp2
        go_ret
        exact ⟨rfl, HB7.out⟩
      · skip
        go_wp2_with fail
        refine (S1.out _ HT5.out).mono ?_
        rintro en w6 ⟨rfl, hb6⟩
        have HB6 : Hid (Below w.heap.size w w6) := HB5.out.trans (hb6.mono HB5.out.size)
        have HT6 : Hid (Tabs w6) := HT5.out.below hb6
        clear hb6 HB5 HT5
        go_wp2_with fail
        refine (Z1.out _ HT6.out).mono ?_
        rintro en w7 ⟨rfl, hb7⟩
        have HB7 : Hid (Below w.heap.size w w7) := HB6.out.trans (hb7.mono HB6.out.size)
        have HT7 : Hid (Tabs w7) := HT6.out.below hb7
        clear hb7 HB6 HT6
        go_wp2_with fail
        refine (Z2.out _ HT7.out).mono ?_
        rintro en w8 ⟨rfl, hb8⟩
        have HB8 : Hid (Below w.heap.size w w8) := HB7.out.trans (hb8.mono HB7.out.size)
        have HT8 : Hid (Tabs w8) := HT7.out.below hb8
        clear hb8 HB7 HT7
        go_wp2
        go_ret
        exact ⟨rfl, HB8.out⟩

set_option maxRecDepth 100000 in
set_option maxHeartbeats 4000000 in
theorem exact_any (a b : Int) (h1 : Word a) (h2 : Word b) (w : World) (hT : Tabs w) : Calls Tryd.prog 6 #[.int .u64 a, .int .u64 b] w (TruePost w) := by
  have a0 := h1.1
  have b0 := h2.1
  obtain ⟨x, hx⟩ : ∃ z, a % 9223372036854775808 = z := ⟨_, rfl⟩
  obtain ⟨y, hy⟩ : ∃ z, b % 9223372036854775808 = z := ⟨_, rfl⟩
  have x0 : 0 ≤ x := by omega
  have x1 : x < 9223372036854775808 := by omega
  have y0 : 0 ≤ y := by omega
  have y1 : y < 9223372036854775808 := by omega
  have HT0 := Lib.hid hT
  have HB0 : Hid (Below w.heap.size w w) := Below.refl _ _
  clear h1 h2 hT
  go_enter Tryd.func6, Tryd.ntmps6
  go_wp2_with fail
  refine (shown4_any _ HT0.out).mono ?_
  rintro en w1 ⟨rfl, hb1⟩
  have HB1 : Hid (Below w.heap.size w w1) := HB0.out.trans (hb1.mono HB0.out.size)
  have HT1 : Hid (Tabs w1) := HT0.out.below hb1
  clear hb1 HB0 HT0
  go_upto_if 17 with fail
  go_cut [0, 1, 6] (fun va vb vd wx => ∃ p q : Int, va = .int .u64 p ∧ vb = .int .u64 q ∧ 0 ≤ p ∧ p ≤ q ∧ q < 9223372036854775808 ∧ w1 = wx)
  case first =>
    by_cases c : y < x
    · go_wp2
      go_meet
      exact ⟨y, x, by rw [← hy], by rw [← hx], y0, by omega, x1, rfl⟩
    · go_wp2
      go_meet
      exact ⟨x, y, by rw [← hx], by rw [← hy], x0, by omega, y1, rfl⟩
  case rest =>
    obtain ⟨p, q, rfl, rfl, p0, pq, q1, rfl⟩ := hcut
    clear hx hy x0 x1 y0 y1 a0 b0
    have wp : Word p := ⟨p0, by omega⟩
    have wq : Word q := ⟨by omega, by omega⟩
    obtain ⟨k, hk⟩ : ∃ z, kindI q = z := ⟨_, rfl⟩
    have KK := Lib.hid (rkind_vars q k wq hk)
    by_cases c3 : 3 ≤ k
    · clear hk wp wq
      go_wp2_with fail
      refine (KK.out _).mono ?_
      rintro en wz ⟨rfl, rfl⟩
      go_wp2
      go_ret
      exact ⟨rfl, HB1.out⟩
    · obtain ⟨s, hs⟩ : ∃ z, addV p p = z := ⟨_, rfl⟩
      have A1 := Lib.hid (plus_vars p p s wp wp hs)
      by_cases c : s < q
      · clear hk wp wq hs
        go_wp2_with fail
        refine (KK.out _).mono ?_
        rintro en wz ⟨rfl, rfl⟩
        go_wp2_with fail
        refine (A1.out _ HT1.out).mono ?_
        rintro en w2 ⟨rfl, hb2⟩
        have HB2 : Hid (Below w.heap.size w w2) := HB1.out.trans (hb2.mono HB1.out.size)
        have HT2 : Hid (Tabs w2) := HT1.out.below hb2
        clear hb2 HB1 HT1
        go_wp2
        go_ret
        exact ⟨rfl, HB2.out⟩
      · obtain ⟨e1, e2, e3⟩ := exact_sum wp wq (by omega) q1 pq (by omega) (by omega)
        obtain ⟨d, hd⟩ : ∃ z, subV q p = z := ⟨_, rfl⟩
        rw [hd] at e1 e2 e3
        have wd : Word d := by rw [← hd]; exact subV_word wq wp
        have S1 := Lib.hid (minus_vars q p d wq wp hd)
        have A2 := Lib.hid (plus_vars p d q wp wd e1)
        have S2 := Lib.hid (minus_vars q d p wq wd e2)
        clear hk wp wq hs hd e1 e2 wd
        go_wp2_with fail
        refine (KK.out _).mono ?_
        rintro en wz ⟨rfl, rfl⟩
        go_wp2_with fail
        refine (A1.out _ HT1.out).mono ?_
        rintro en w2 ⟨rfl, hb2⟩
        have HB2 : Hid (Below w.heap.size w w2) := HB1.out.trans (hb2.mono HB1.out.size)
        have HT2 : Hid (Tabs w2) := HT1.out.below hb2
        clear hb2 HB1 HT1
        go_wp2_with fail
        refine (S1.out _ HT2.out).mono ?_
        rintro en w3 ⟨rfl, hb3⟩
        have HB3 : Hid (Below w.heap.size w w3) := HB2.out.trans (hb3.mono HB2.out.size)
        have HT3 : Hid (Tabs w3) := HT2.out.below hb3
        clear hb3 HB2 HT2
        go_wp2_with fail
        refine (A2.out _ HT3.out).mono ?_
        rintro en w4 ⟨rfl, hb4⟩
        have HB4 : Hid (Below w.heap.size w w4) := HB3.out.trans (hb4.mono HB3.out.size)
        have HT4 : Hid (Tabs w4) := HT3.out.below hb4
        clear hb4 HB3 HT3
        go_wp2_with fail
        refine (S2.out _ HT4.out).mono ?_
        rintro en w5 ⟨rfl, hb5⟩
        have HB5 : Hid (Below w.heap.size w w5) := HB4.out.trans (hb5.mono HB4.out.size)
        have HT5 : Hid (Tabs w5) := HT4.out.below hb5
        clear hb5 HB4 HT4
        go_wp2
        go_ret
        exact ⟨rfl, HB5.out⟩
end Go.Proofs.YtgaaaokhggeglaaDoor
