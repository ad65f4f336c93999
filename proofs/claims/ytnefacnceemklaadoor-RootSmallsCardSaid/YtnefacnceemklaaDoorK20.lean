/-
  The statement RootSmalls, walked.
-/
import Derived.Test.YtnefacnceemklaaDoorK20a
import Derived.Test.YtnefacnceemklaaDoorK17
namespace Go.Proofs.YtnefacnceemklaaDoor
open Go.RowKit Go.Shelf

set_option maxRecDepth 100000 in
set_option maxHeartbeats 8000000 in
theorem smalls_any (a b : Int) (ha : Word a) (hb : Word b) (w : World) (hT : Tabs w) : Calls Tryd.prog 9 #[.int .u64 a, .int .u64 b] w (TruePost w) := by
  obtain ⟨k, hk⟩ : ∃ z, kindI a = z := ⟨_, rfl⟩
  obtain ⟨j, hj⟩ : ∃ z, kindI b = z := ⟨_, rfl⟩
  have bk := kind_bd a
  have bj := kind_bd b
  rw [hk] at bk; rw [hj] at bj
  have HT0 := Lib.hid hT
  have HB0 : Hid (Below w.heap.size w w) := Below.refl _ _
  have KA := Lib.hid (fun W => rkind_vars a k ha hk W)
  have KB := Lib.hid (fun W => rkind_vars b j hb hj W)
  have M1 := Lib.hid (fun W (_ : Tabs W) => mod5_any a b ha hb W)
  have a0 := ha.1
  have b0 := hb.1
  by_cases n : k = 4 ∨ j = 4 ∨ k = 3 ∨ j = 0
  · have e : modV a b = 9221120237041090560 := by unfold modV; rw [hk, hj, if_pos n]
    rw [e] at M1
    clear e ha hb hT hk hj
    have ck : k = 0 ∨ k = 1 ∨ k = 2 ∨ k = 3 ∨ k = 4 := by omega
    have cj : j = 0 ∨ j = 1 ∨ j = 2 ∨ j = 3 ∨ j = 4 := by omega
    clear bk bj
    rcases ck with rfl | rfl | rfl | rfl | rfl <;> rcases cj with rfl | rfl | rfl | rfl | rfl
    all_goals first
      | (exact absurd n (by decide))
      | (clear n
         go_enter Tryd.func9, Tryd.ntmps9
         go_wp2_with fail
         refine (shown5_any _ HT0.out).mono ?_
         rintro en w1 ⟨rfl, hb1⟩
         have HB1 : Hid (Below w.heap.size w w1) := HB0.out.trans (hb1.mono HB0.out.size)
         have HT1 : Hid (Tabs w1) := HT0.out.below hb1
         clear hb1 HB0 HT0
         go_wp2_with fail
         refine (M1.out _ HT1.out).mono ?_
         rintro en w2 ⟨rfl, hb2⟩
         have HB2 : Hid (Below w.heap.size w w2) := HB1.out.trans (hb2.mono HB1.out.size)
         have HT2 : Hid (Tabs w2) := HT1.out.below hb2
         clear hb2 HB1 HT1
         go_wp2_with (first | (go_at_call_of 25 (Value.int IntKind.u64 a); refine (KA.out _).mono ?_; rintro en wz ⟨rfl, rfl⟩) | (go_at_call_of 25 (Value.int IntKind.u64 b); refine (KB.out _).mono ?_; rintro en wz ⟨rfl, rfl⟩))
         go_ret
         exact ⟨by first | rfl | simp, HB2.out⟩)
  by_cases j3 : j = 3
  · subst j3
    have e : modV a b = a := by unfold modV; rw [hk, hj, if_neg n, if_pos (.inr rfl)]
    rw [e] at M1
    have an : (a == 9221120237041090560) = false := by
      have : a ≠ 9221120237041090560 := fun g => by rw [g, show kindI 9221120237041090560 = 4 by decide] at hk; omega
      simpa using this
    clear e ha hb hT hk hj n bk bj
    go_enter Tryd.func9, Tryd.ntmps9
    go_wp2_with fail
    refine (shown5_any _ HT0.out).mono ?_
    rintro en w1 ⟨rfl, hb1⟩
    have HB1 : Hid (Below w.heap.size w w1) := HB0.out.trans (hb1.mono HB0.out.size)
    have HT1 : Hid (Tabs w1) := HT0.out.below hb1
    clear hb1 HB0 HT0
    go_wp2_with fail
    refine (M1.out _ HT1.out).mono ?_
    rintro en w2 ⟨rfl, hb2⟩
    have HB2 : Hid (Below w.heap.size w w2) := HB1.out.trans (hb2.mono HB1.out.size)
    have HT2 : Hid (Tabs w2) := HT1.out.below hb2
    clear hb2 HB1 HT1
    go_wp2_with fail
    refine (KB.out _).mono ?_
    rintro en wz ⟨rfl, rfl⟩
    go_wp2
    go_ret
    exact ⟨by first | rfl | simp, HB2.out⟩
  have kb : kindI b = 1 ∨ kindI b = 2 := by omega
  have ka : kindI a < 3 := by omega
  obtain ⟨r0, r1, r2, r3, r4, r5, r6⟩ := mod_exact ha hb ka kb
  obtain ⟨r, hr⟩ : ∃ r, modV a b = r := ⟨_, rfl⟩
  rw [hr] at M1 r0 r1 r2 r3 r4 r5 r6
  have M2 := Lib.hid (fun W (_ : Tabs W) => by have h := mod5_any r b r0 hb W; rw [r4] at h; exact h)
  have M3 := Lib.hid (fun W (_ : Tabs W) => by have h := mod5_any a (turnI b) ha (turn_word b) W; rw [r5] at h; exact h)
  have XT := u64_xor_top b hb
  have rn : (r == 9221120237041090560) = false := by
    have : r ≠ 9221120237041090560 := fun g => by rw [g, show kindI 9221120237041090560 = 4 by decide] at r6; omega
    simpa using this
  have j3 : (j == 3) = false := by simpa using j3
  have rr0 : 0 ≤ r := r0.1
  have q1 : r / 9223372036854775808 = a / 9223372036854775808 := by
    unfold negB at r3
    by_cases c : 9223372036854775808 ≤ a
    · rw [decide_eq_true c] at r3
      have := of_decide_eq_true r3
      unfold Word at *; omega
    · rw [decide_eq_false c] at r3
      have := of_decide_eq_false r3
      unfold Word at *; omega
  unfold absI at r1 r2
  obtain ⟨x, hx⟩ : ∃ x, r % 9223372036854775808 = x := ⟨_, rfl⟩
  obtain ⟨y, hy⟩ : ∃ y, b % 9223372036854775808 = y := ⟨_, rfl⟩
  obtain ⟨z, hz⟩ : ∃ z, a % 9223372036854775808 = z := ⟨_, rfl⟩
  obtain ⟨g, hg⟩ : ∃ g, a / 9223372036854775808 = g := ⟨_, rfl⟩
  rw [hx, hy] at r1
  rw [hx, hz] at r2
  rw [hg, ← Int.tdiv_eq_ediv_of_nonneg rr0] at q1
  rw [← Int.tdiv_eq_ediv_of_nonneg a0] at hg
  generalize turnI b = tb at *
  clear ha hb hT hk hj n bk bj ka kb r0 r3 r4 r5 r6 hr
  go_enter Tryd.func9, Tryd.ntmps9
  go_wp2_with fail
  refine (shown5_any _ HT0.out).mono ?_
  rintro en w1 ⟨rfl, hb1⟩
  have HB1 : Hid (Below w.heap.size w w1) := HB0.out.trans (hb1.mono HB0.out.size)
  have HT1 : Hid (Tabs w1) := HT0.out.below hb1
  clear hb1 HB0 HT0
  go_wp2_with fail
  refine (M1.out _ HT1.out).mono ?_
  rintro en w2 ⟨rfl, hb2⟩
  have HB2 : Hid (Below w.heap.size w w2) := HB1.out.trans (hb2.mono HB1.out.size)
  have HT2 : Hid (Tabs w2) := HT1.out.below hb2
  clear hb2 HB1 HT1
  go_wp2_with fail
  refine (KB.out _).mono ?_
  rintro en wz ⟨rfl, rfl⟩
  go_wp2_with fail
  refine (M2.out _ HT2.out).mono ?_
  rintro en w3 ⟨rfl, hb3⟩
  have HB3 : Hid (Below w.heap.size w w3) := HB2.out.trans (hb3.mono HB2.out.size)
  have HT3 : Hid (Tabs w3) := HT2.out.below hb3
  clear hb3 HB2 HT2
  go_wp2_with fail
  refine (M3.out _ HT3.out).mono ?_
  rintro en w4 ⟨rfl, hb4⟩
  have HB4 : Hid (Below w.heap.size w w4) := HB3.out.trans (hb4.mono HB3.out.size)
  have HT4 : Hid (Tabs w4) := HT3.out.below hb4
  clear hb4 HB3 HT3
  go_wp2
  go_ret
  exact ⟨by first | rfl | simp, HB4.out⟩
end Go.Proofs.YtnefacnceemklaaDoor
