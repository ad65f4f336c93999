/-
  The statement ArithOrders, walked.
-/
import Derived.Test.YtgaaaokhggeglaaDoorA12
namespace Go.Proofs.YtgaaaokhggeglaaDoor
open Go.RowKit Go.Shelf

theorem rank_vars (x r : Int) (h : Word x) (hr : rankI x = r) (w : World) : Calls Tryd.prog 14 #[.int .u64 x] w fun e w' => e = .returned (.int .i64 r) ∧ w = w' := by
  rw [← hr]; exact rank_any x h w

set_option maxRecDepth 100000 in
set_option maxHeartbeats 4000000 in
theorem order_any (a b c : Int) (h1 : Word a) (h2 : Word b) (h3 : Word c) (w : World) (hT : Tabs w) : Calls Tryd.prog 5 #[.int .u64 a, .int .u64 b, .int .u64 c] w (TruePost w) := by
  obtain ⟨k, hk⟩ : ∃ z, kindI a = z := ⟨_, rfl⟩
  obtain ⟨j, hj⟩ : ∃ z, kindI b = z := ⟨_, rfl⟩
  obtain ⟨ra, hra⟩ : ∃ z, rankI a = z := ⟨_, rfl⟩
  obtain ⟨rb, hrb⟩ : ∃ z, rankI b = z := ⟨_, rfl⟩
  have KA := Lib.hid (rkind_vars a k h1 hk)
  have KB := Lib.hid (rkind_vars b j h2 hj)
  have RA := Lib.hid (rank_vars a ra h1 hra)
  have RB := Lib.hid (rank_vars b rb h2 hrb)
  have HT0 := Lib.hid hT
  have HB0 : Hid (Below w.heap.size w w) := Below.refl _ _
  have Fac : Hid (k ≠ 4 → j ≠ 4 → ∀ p q : Int, (p = a ∧ q = b ∧ ra ≤ rb) ∨ (p = b ∧ q = a ∧ rb ≤ ra) → Word p ∧ Word q ∧ kindI p ≠ 4 ∧ kindI q ≠ 4 ∧ rankI p ≤ rankI q) := by
    rintro n1 n2 p q (⟨rfl, rfl, h⟩ | ⟨rfl, rfl, h⟩)
    · exact ⟨h1, h2, by omega, by omega, by omega⟩
    · exact ⟨h2, h1, by omega, by omega, by omega⟩
  have H3 := Lib.hid h3
  clear h1 h2 h3 hk hj hra hrb hT
  have cx : k = 4 ∨ (k ≠ 4 ∧ j = 4) ∨ (k ≠ 4 ∧ j ≠ 4) := by omega
  go_enter Tryd.func5, Tryd.ntmps5
  go_wp2_with fail
  refine (shown4_any _ HT0.out).mono ?_
  rintro en w1 ⟨rfl, hb1⟩
  have HB1 : Hid (Below w.heap.size w w1) := HB0.out.trans (hb1.mono HB0.out.size)
  have HT1 : Hid (Tabs w1) := HT0.out.below hb1
  clear hb1 HB0 HT0
  by_cases c1 : k = 4
  · have c1 : (k == 4) = true := by simpa using c1
    clear cx Fac
    go_wp2_with fail
    refine (KA.out _).mono ?_
    rintro en wz ⟨rfl, rfl⟩
    go_wp2
    go_ret
    exact ⟨rfl, HB1.out⟩
  by_cases c2 : j = 4
  · have c1 : (k == 4) = false := by simpa using c1
    have c2 : (j == 4) = true := by simpa using c2
    clear cx Fac
    go_wp2_with fail
    refine (KA.out _).mono ?_
    rintro en wz ⟨rfl, rfl⟩
    go_wp2_with fail
    refine (KB.out _).mono ?_
    rintro en wz ⟨rfl, rfl⟩
    go_wp2
    go_ret
    exact ⟨rfl, HB1.out⟩
  have Fac := Lib.hid (Fac.out c1 c2)
  have c1 : (k == 4) = false := by simpa using c1
  have c2 : (j == 4) = false := by simpa using c2
  clear cx
  go_wp2_with fail
  refine (KA.out _).mono ?_
  rintro en wz ⟨rfl, rfl⟩
  go_wp2_with fail
  refine (KB.out _).mono ?_
  rintro en wz ⟨rfl, rfl⟩
  go_wp2_with fail
  refine (RA.out _).mono ?_
  rintro en wz ⟨rfl, rfl⟩
  go_wp2_with fail
  refine (RB.out _).mono ?_
  rintro en wz ⟨rfl, rfl⟩
  go_upto_if 31 with fail
  go_cut [0, 1, 8] (fun va vb vd wx => ∃ p q : Int, va = .int .u64 p ∧ vb = .int .u64 q ∧ ((p = a ∧ q = b ∧ ra ≤ rb) ∨ (p = b ∧ q = a ∧ rb ≤ ra)) ∧ w1 = wx)
  case first =>
    by_cases c : rb < ra
    · go_wp2
      go_meet
      exact ⟨b, a, rfl, rfl, .inr ⟨rfl, rfl, by omega⟩, rfl⟩
    · go_wp2
      go_meet
      exact ⟨a, b, rfl, rfl, .inl ⟨rfl, rfl, by omega⟩, rfl⟩
  case rest =>
    obtain ⟨p, q, rfl, rfl, hpq, rfl⟩ := hcut
    obtain ⟨h1, h2, n1, n2, hle⟩ := Fac.out p q hpq
    have h3 := H3.out
    clear hpq Fac KA KB RA RB c1 c2
    obtain ⟨x, hx⟩ : ∃ z, addV p c = z := ⟨_, rfl⟩
    obtain ⟨y, hy⟩ : ∃ z, addV q c = z := ⟨_, rfl⟩
    obtain ⟨s, hs⟩ : ∃ z, mulV p c = z := ⟨_, rfl⟩
    obtain ⟨t, ht⟩ : ∃ z, mulV q c = z := ⟨_, rfl⟩
    obtain ⟨rx, hrx⟩ : ∃ z, rankI x = z := ⟨_, rfl⟩
    obtain ⟨ry, hry⟩ : ∃ z, rankI y = z := ⟨_, rfl⟩
    obtain ⟨rs, hrs⟩ : ∃ z, rankI s = z := ⟨_, rfl⟩
    obtain ⟨rt, hrt⟩ : ∃ z, rankI t = z := ⟨_, rfl⟩
    obtain ⟨kc, hkc⟩ : ∃ z, kindI c = z := ⟨_, rfl⟩
    have A1 := Lib.hid (plus_vars p c x h1 h3 hx)
    have A2 := Lib.hid (plus_vars q c y h2 h3 hy)
    have M1 := Lib.hid (times_vars p c s h1 h3 hs)
    have M2 := Lib.hid (times_vars q c t h2 h3 ht)
    have RX := Lib.hid (rank_vars x rx (by rw [← hx]; exact addV_word h1 h3) hrx)
    have RY := Lib.hid (rank_vars y ry (by rw [← hy]; exact addV_word h2 h3) hry)
    have RS := Lib.hid (rank_vars s rs (by rw [← hs]; exact mulV_word h1 h3) hrs)
    have RT := Lib.hid (rank_vars t rt (by rw [← ht]; exact mulV_word h2 h3) hrt)
    have KC := Lib.hid (rkind_vars c kc h3 hkc)
    obtain ⟨o1, o2⟩ := add_order h1 h2 h3 n1 n2 hle
    have o3 := mul_order h1 h2 h3 n1 n2 hle
    have eB : negB c = decide (9223372036854775808 ≤ c) := rfl
    rw [hx, hy, hkc] at o1
    rw [hx, hy, hrx, hry] at o2
    rw [hs, ht, hrs, hrt, eB] at o3
    have c0 := h3.1
    have O1 := Lib.hid o1
    have O2 := Lib.hid o2
    have O3 := Lib.hid o3
    clear h1 h2 h3 H3 n1 n2 hle hx hy hs ht hrx hry hrs hrt hkc o1 o2 o3 eB
    go_wp2_with fail
    refine (A1.out _ HT1.out).mono ?_
    rintro en w2 ⟨rfl, hb2⟩
    have HB2 : Hid (Below w.heap.size w w2) := HB1.out.trans (hb2.mono HB1.out.size)
    have HT2 : Hid (Tabs w2) := HT1.out.below hb2
    clear hb2 HB1 HT1
    go_wp2_with fail
    refine (A2.out _ HT2.out).mono ?_
    rintro en w3 ⟨rfl, hb3⟩
    have HB3 : Hid (Below w.heap.size w w3) := HB2.out.trans (hb3.mono HB2.out.size)
    have HT3 : Hid (Tabs w3) := HT2.out.below hb3
    clear hb3 HB2 HT2
    rcases Bool.eq_false_or_eq_true (x == 9221120237041090560) with e1 | e1
    · have g := O1.out (.inl (by simpa using e1))
      clear O1 O2 O3
      go_wp2_with fail
      refine (KC.out _).mono ?_
      rintro en wz ⟨rfl, rfl⟩
      go_wp2
      go_ret
      exact ⟨rfl, HB3.out⟩
    rcases Bool.eq_false_or_eq_true (y == 9221120237041090560) with e2 | e2
    · have g := O1.out (.inr (by simpa using e2))
      clear O1 O2 O3
      go_wp2_with fail
      refine (KC.out _).mono ?_
      rintro en wz ⟨rfl, rfl⟩
      go_wp2
      go_ret
      exact ⟨rfl, HB3.out⟩
    have g := O2.out (by simpa using e1) (by simpa using e2)
    clear O1 O2
    go_wp2_with fail
    refine (RX.out _).mono ?_
    rintro en wz ⟨rfl, rfl⟩
    go_wp2_with fail
    refine (RY.out _).mono ?_
    rintro en wz ⟨rfl, rfl⟩
    go_wp2_with fail
    refine (M1.out _ HT3.out).mono ?_
    rintro en w4 ⟨rfl, hb4⟩
    have HB4 : Hid (Below w.heap.size w w4) := HB3.out.trans (hb4.mono HB3.out.size)
    have HT4 : Hid (Tabs w4) := HT3.out.below hb4
    clear hb4 HB3 HT3
    go_wp2_with fail
    refine (M2.out _ HT4.out).mono ?_
    rintro en w5 ⟨rfl, hb5⟩
    have HB5 : Hid (Below w.heap.size w w5) := HB4.out.trans (hb5.mono HB4.out.size)
    have HT5 : Hid (Tabs w5) := HT4.out.below hb5
    clear hb5 HB4 HT4
    rcases Bool.eq_false_or_eq_true (s == 9221120237041090560) with e3 | e3
    · clear O3
      go_wp2
      go_ret
      exact ⟨rfl, HB5.out⟩
    rcases Bool.eq_false_or_eq_true (t == 9221120237041090560) with e4 | e4
    · clear O3
      go_wp2
      go_ret
      exact ⟨rfl, HB5.out⟩
    have g2 := O3.out (by simpa using e3) (by simpa using e4)
    clear O3
    by_cases cc : 9223372036854775808 ≤ c
    · rw [decide_eq_true cc, if_pos rfl] at g2
      go_wp2_with fail
      refine (RS.out _).mono ?_
      rintro en wz ⟨rfl, rfl⟩
      go_wp2_with fail
      refine (RT.out _).mono ?_
      rintro en wz ⟨rfl, rfl⟩
      go_wp2
      go_ret
      exact ⟨rfl, HB5.out⟩
    · rw [decide_eq_false cc, if_neg (by decide)] at g2
      go_wp2_with fail
      refine (RS.out _).mono ?_
      rintro en wz ⟨rfl, rfl⟩
      go_wp2_with fail
      refine (RT.out _).mono ?_
      rintro en wz ⟨rfl, rfl⟩
      go_wp2
      go_ret
      exact ⟨rfl, HB5.out⟩
end Go.Proofs.YtgaaaokhggeglaaDoor
