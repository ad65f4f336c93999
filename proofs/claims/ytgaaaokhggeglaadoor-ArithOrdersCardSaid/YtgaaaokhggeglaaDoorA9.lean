/-
  The statement ArithTurns, walked.
-/
import Derived.Test.YtgaaaokhggeglaaDoorA8
namespace Go.Proofs.YtgaaaokhggeglaaDoor
open Go.RowKit Go.Shelf

theorem plus_vars (a b r : Int) (h1 : Word a) (h2 : Word b) (hr : addV a b = r) (w : World) (hT : Tabs w) : Calls Tryd.prog 8 #[.int .u64 a, .int .u64 b] w (WordPost r w) := by
  rw [← hr]; exact plus_any a b h1 h2 w hT
theorem minus_vars (a b r : Int) (h1 : Word a) (h2 : Word b) (hr : subV a b = r) (w : World) (hT : Tabs w) : Calls Tryd.prog 10 #[.int .u64 a, .int .u64 b] w (WordPost r w) := by
  rw [← hr]; exact minus_any a b h1 h2 w hT
theorem times_vars (a b r : Int) (h1 : Word a) (h2 : Word b) (hr : mulV a b = r) (w : World) (hT : Tabs w) : Calls Tryd.prog 9 #[.int .u64 a, .int .u64 b] w (WordPost r w) := by
  rw [← hr]; exact times_any a b h1 h2 w hT
theorem signI_word (s : Bool) (r : Int) (h0 : 0 ≤ r) (h1 : r ≤ 9218868437227405312) : Word (signI s + r) := by
  cases s <;> simp [signI, Word] <;> omega
theorem rnd_word (s : Bool) {v e : Int} (h : 0 ≤ v) : Word (rndI s v e) := by
  rw [rnd_neg]
  have := rnd_bd e h
  exact signI_word s _ this.1 this.2
theorem mulV_word {a b : Int} (h1 : Word a) (h2 : Word b) : Word (mulV a b) := by
  unfold mulV mulK
  split
  · decide
  split
  · exact signI_word _ _ (by decide) (by decide)
  split
  · have := signI_word (negB a != negB b) 0 (by decide) (by decide)
    simpa using this
  · exact rnd_word _ (Int.mul_nonneg (mant_bd a h1).1 (mant_bd b h2).1)
theorem subV_word {a b : Int} (h1 : Word a) (h2 : Word b) : Word (subV a b) := addV_word h1 (neg_word b h2)

set_option maxRecDepth 100000 in
set_option maxHeartbeats 4000000 in
theorem turns_any (a b : Int) (h1 : Word a) (h2 : Word b) (w : World) (hT : Tabs w) : Calls Tryd.prog 3 #[.int .u64 a, .int .u64 b] w (TruePost w) := by
  have tri := sub_turn h1 h2
  obtain ⟨r, hr⟩ : ∃ z, addV a b = z := ⟨_, rfl⟩
  obtain ⟨p, hp⟩ : ∃ z, mulV a b = z := ⟨_, rfl⟩
  obtain ⟨d, hd⟩ : ∃ z, subV a b = z := ⟨_, rfl⟩
  obtain ⟨e, he⟩ : ∃ z, subV b a = z := ⟨_, rfl⟩
  obtain ⟨na, hna⟩ : ∃ z, negI a = z := ⟨_, rfl⟩
  obtain ⟨ne, hne⟩ : ∃ z, negI e = z := ⟨_, rfl⟩
  obtain ⟨np, hnp⟩ : ∃ z, negI p = z := ⟨_, rfl⟩
  have hw1 : Word p := by rw [← hp]; exact mulV_word h1 h2
  have hw2 : Word e := by rw [← he]; exact subV_word h2 h1
  have hw4 : Word d := by rw [← hd]; exact subV_word h1 h2
  have hw3 : Word na := by rw [← hna]; exact neg_word a h1
  rw [hd, he, hne] at tri
  have A1 := Lib.hid (plus_vars a b r h1 h2 hr)
  have A2 := Lib.hid (plus_vars b a r h2 h1 ((addV_comm h2 h1).trans hr))
  have M1 := Lib.hid (times_vars a b p h1 h2 hp)
  have M2 := Lib.hid (times_vars b a p h2 h1 ((mulV_comm b a).trans hp))
  have M3 := Lib.hid (times_vars na b np hw3 h2 (by rw [← hna, mul_turn h1 h2, hp, hnp]))
  have S1 := Lib.hid (minus_vars a b d h1 h2 hd)
  have S2 := Lib.hid (minus_vars b a e h2 h1 he)
  have N1 := Lib.hid (rneg_vars a na h1 hna)
  have N2 := Lib.hid (rneg_vars e ne hw2 hne)
  have N3 := Lib.hid (rneg_vars p np hw1 hnp)
  have d0 := hw4.1
  have e0 := hw2.1
  have HT0 := Lib.hid hT
  have HB0 : Hid (Below w.heap.size w w) := Below.refl _ _
  have Tri : Hid (∀ z : Bool, ((d == 0) && (e == 0)) = false → (d == ne) = false → ((d % 9223372036854775808 == 0) && (e % 9223372036854775808 == 0)) = true) := by
    intro _ h3 h4
    rcases tri with h | h | h
    · simp [h.1, h.2] at h3
    · simp [h] at h4
    · simp [h.1, h.2]
  clear hr hp hd he hna hne hnp hw1 hw2 hw3 hw4 h1 h2 hT tri
  go_enter Tryd.func3, Tryd.ntmps3
  go_wp2_with fail
  refine (shown4_any _ HT0.out).mono ?_
  rintro en w1 ⟨rfl, hb1⟩
  have HB1 : Hid (Below w.heap.size w w1) := HB0.out.trans (hb1.mono HB0.out.size)
  have HT1 : Hid (Tabs w1) := HT0.out.below hb1
  clear hb1 HB0 HT0
  go_wp2_with fail
  refine (A1.out _ HT1.out).mono ?_
  rintro en w2 ⟨rfl, hb2⟩
  have HB2 : Hid (Below w.heap.size w w2) := HB1.out.trans (hb2.mono HB1.out.size)
  have HT2 : Hid (Tabs w2) := HT1.out.below hb2
  clear hb2 HB1 HT1
  go_wp2_with fail
  refine (A2.out _ HT2.out).mono ?_
  rintro en w3 ⟨rfl, hb3⟩
  have HB3 : Hid (Below w.heap.size w w3) := HB2.out.trans (hb3.mono HB2.out.size)
  have HT3 : Hid (Tabs w3) := HT2.out.below hb3
  clear hb3 HB2 HT2
  go_wp2_with fail
  refine (M1.out _ HT3.out).mono ?_
  rintro en w4 ⟨rfl, hb4⟩
  have HB4 : Hid (Below w.heap.size w w4) := HB3.out.trans (hb4.mono HB3.out.size)
  have HT4 : Hid (Tabs w4) := HT3.out.below hb4
  clear hb4 HB3 HT3
  go_wp2_with fail
  refine (M2.out _ HT4.out).mono ?_
  rintro en w5 ⟨rfl, hb5⟩
  have HB5 : Hid (Below w.heap.size w w5) := HB4.out.trans (hb5.mono HB4.out.size)
  have HT5 : Hid (Tabs w5) := HT4.out.below hb5
  clear hb5 HB4 HT4
  go_wp2_with fail
  refine (S1.out _ HT5.out).mono ?_
  rintro en w6 ⟨rfl, hb6⟩
  have HB6 : Hid (Below w.heap.size w w6) := HB5.out.trans (hb6.mono HB5.out.size)
  have HT6 : Hid (Tabs w6) := HT5.out.below hb6
  clear hb6 HB5 HT5
  go_wp2_with fail
  refine (S2.out _ HT6.out).mono ?_
  rintro en w7 ⟨rfl, hb7⟩
  have HB7 : Hid (Below w.heap.size w w7) := HB6.out.trans (hb7.mono HB6.out.size)
  have HT7 : Hid (Tabs w7) := HT6.out.below hb7
  clear hb7 HB6 HT6
  go_wp2_with fail
  refine (M1.out _ HT7.out).mono ?_
  rintro en w8 ⟨rfl, hb8⟩
  have HB8 : Hid (Below w.heap.size w w8) := HB7.out.trans (hb8.mono HB7.out.size)
  have HT8 : Hid (Tabs w8) := HT7.out.below hb8
  clear hb8 HB7 HT7
  go_wp2_with fail
  refine (N1.out _).mono ?_
  rintro en wz ⟨rfl, rfl⟩
  go_wp2_with fail
  refine (M3.out _ HT8.out).mono ?_
  rintro en w9 ⟨rfl, hb9⟩
  have HB9 : Hid (Below w.heap.size w w9) := HB8.out.trans (hb9.mono HB8.out.size)
  have HT9 : Hid (Tabs w9) := HT8.out.below hb9
  clear hb9 HB8 HT8
  rcases Bool.eq_false_or_eq_true (d == 0) with k1 | k1 <;> rcases Bool.eq_false_or_eq_true (e == 0) with k2 | k2
  · clear Tri
    go_wp2_with (go_at_call 11; refine (N3.out _).mono ?_; rintro en wz ⟨rfl, rfl⟩)
    go_ret
    exact ⟨rfl, HB9.out⟩
  all_goals
    have t := Tri.out true (by rw [k1, k2]; rfl)
    rcases Bool.eq_false_or_eq_true (d == ne) with k3 | k3
    · clear Tri t
      go_wp2_with fail
      refine (N2.out _).mono ?_
      rintro en wz ⟨rfl, rfl⟩
      go_wp2_with fail
      refine (N3.out _).mono ?_
      rintro en wz ⟨rfl, rfl⟩
      go_wp2
      go_ret
      exact ⟨rfl, HB9.out⟩
    · have t := t k3
      rw [Bool.and_eq_true] at t
      obtain ⟨k4, k5⟩ := t
      clear Tri
      go_wp2_with fail
      refine (N2.out _).mono ?_
      rintro en wz ⟨rfl, rfl⟩
      go_wp2_with fail
      refine (N3.out _).mono ?_
      rintro en wz ⟨rfl, rfl⟩
      go_wp2
      go_ret
      exact ⟨rfl, HB9.out⟩
end Go.Proofs.YtgaaaokhggeglaaDoor
