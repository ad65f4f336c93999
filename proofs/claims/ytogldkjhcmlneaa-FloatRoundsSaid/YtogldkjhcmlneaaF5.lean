/-
  The head of chapter 3's statements: the chapter's examples come out as it tells them.
-/
import Derived.Test.YtogldkjhcmlneaaF4
namespace Go.Proofs.Ytogldkjhcmlneaa
open Go.RowKit Go.Shelf

theorem len_unique {v : Int} {n m : Nat} (h1 : v < (2 ^ n : Nat)) (h2 : ((2 ^ n : Nat) : Int) ≤ 2 * v) (h3 : v < (2 ^ m : Nat)) (h4 : ((2 ^ m : Nat) : Int) ≤ 2 * v) : n = m := by
  rcases Nat.lt_trichotomy n m with h | h | h
  · have := Nat.pow_le_pow_right (show 0 < 2 by decide) (show n + 1 ≤ m by omega)
    rw [Nat.pow_succ] at this; omega
  · exact h
  · have := Nat.pow_le_pow_right (show 0 < 2 by decide) (show m + 1 ≤ n by omega)
    rw [Nat.pow_succ] at this; omega
/-- Join at a number of n bits. -/
def joinAt (neg : Bool) (v e : Int) (more : Bool) (n : Nat) : Int :=
  nearI neg (v / pw (max ((n : Int) - 64) 0)) (max ((n : Int) - 64) 0) e (Lib.bitLen (v / pw (max ((n : Int) - 64) 0)).toNat : Int) (more || (v % pw (max ((n : Int) - 64) 0) != 0))
theorem JoinPost.at {neg more : Bool} {v e : Int} (n : Nat) (h1 : v < (2 ^ n : Nat)) (h2 : ((2 ^ n : Nat) : Int) ≤ 2 * v) {r : Int} (hr : joinAt neg v e more n = r) :
    ∀ (w : World) (en : Ending) (w' : World), JoinPost neg v e more w en w' → en = .returned (.int .u64 r) ∧ Below w.heap.size w w' := by
  rintro w en w' ⟨m, over, top, size, lost, hm, h3, h4, rfl, rfl, hl, rfl, rfl, hb⟩
  have hv : v ≠ 0 := by have := Nat.two_pow_pos n; omega
  obtain rfl := len_unique h1 h2 h3 (h4 hv)
  refine ⟨?_, hb⟩
  rw [← hr]
  unfold joinAt
  congr 4
  cases lost
  · have := hl.1 rfl; simp [this]
  · have : ¬ v % pw (max ((n : Int) - 64) 0) = 0 := fun e => by have := hl.2 e; cases this
    simp [this]

theorem j1 (w : World) : Calls Try.prog 35 #[.bool false, .agg #[.int .u64 0, .int .u64 1], .int .i64 (0), .bool false] w fun e w' => e = .returned (.int .u64 4607182418800017408) ∧ Below w.heap.size w w' :=
  (join_any false 0 1 (0) false (by decide) (by decide) (by decide) (by decide) w).mono (JoinPost.at 1 (by decide +kernel) (by decide +kernel) (by decide +kernel) w)
theorem j2 (w : World) : Calls Try.prog 35 #[.bool true, .agg #[.int .u64 0, .int .u64 3], .int .i64 (-1), .bool false] w fun e w' => e = .returned (.int .u64 13832806255468478464) ∧ Below w.heap.size w w' :=
  (join_any true 0 3 (-1) false (by decide) (by decide) (by decide) (by decide) w).mono (JoinPost.at 2 (by decide +kernel) (by decide +kernel) (by decide +kernel) w)
theorem j3 (w : World) : Calls Try.prog 35 #[.bool false, .agg #[.int .u64 0, .int .u64 1], .int .i64 (-1075), .bool false] w fun e w' => e = .returned (.int .u64 0) ∧ Below w.heap.size w w' :=
  (join_any false 0 1 (-1075) false (by decide) (by decide) (by decide) (by decide) w).mono (JoinPost.at 1 (by decide +kernel) (by decide +kernel) (by decide +kernel) w)
theorem j4 (w : World) : Calls Try.prog 35 #[.bool false, .agg #[.int .u64 0, .int .u64 1], .int .i64 (-1075), .bool true] w fun e w' => e = .returned (.int .u64 1) ∧ Below w.heap.size w w' :=
  (join_any false 0 1 (-1075) true (by decide) (by decide) (by decide) (by decide) w).mono (JoinPost.at 1 (by decide +kernel) (by decide +kernel) (by decide +kernel) w)
theorem j5 (w : World) : Calls Try.prog 35 #[.bool false, .agg #[.int .u64 0, .int .u64 9007199254740993], .int .i64 (0), .bool false] w fun e w' => e = .returned (.int .u64 4845873199050653696) ∧ Below w.heap.size w w' :=
  (join_any false 0 9007199254740993 (0) false (by decide) (by decide) (by decide) (by decide) w).mono (JoinPost.at 54 (by decide +kernel) (by decide +kernel) (by decide +kernel) w)
theorem j6 (w : World) : Calls Try.prog 35 #[.bool false, .agg #[.int .u64 0, .int .u64 9007199254740995], .int .i64 (0), .bool false] w fun e w' => e = .returned (.int .u64 4845873199050653698) ∧ Below w.heap.size w w' :=
  (join_any false 0 9007199254740995 (0) false (by decide) (by decide) (by decide) (by decide) w).mono (JoinPost.at 54 (by decide +kernel) (by decide +kernel) (by decide +kernel) w)
theorem j7 (w : World) : Calls Try.prog 35 #[.bool false, .agg #[.int .u64 0, .int .u64 9007199254740993], .int .i64 (0), .bool true] w fun e w' => e = .returned (.int .u64 4845873199050653697) ∧ Below w.heap.size w w' :=
  (join_any false 0 9007199254740993 (0) true (by decide) (by decide) (by decide) (by decide) w).mono (JoinPost.at 54 (by decide +kernel) (by decide +kernel) (by decide +kernel) w)
theorem j8 (w : World) : Calls Try.prog 35 #[.bool false, .agg #[.int .u64 0, .int .u64 1], .int .i64 (1024), .bool false] w fun e w' => e = .returned (.int .u64 9218868437227405312) ∧ Below w.heap.size w w' :=
  (join_any false 0 1 (1024) false (by decide) (by decide) (by decide) (by decide) w).mono (JoinPost.at 1 (by decide +kernel) (by decide +kernel) (by decide +kernel) w)
theorem k1 (w : World) : Calls Try.prog 51 #[.int .u64 0] w fun e w' => e = .returned (.int .i64 0) ∧ w = w' := by
  have e : kindI 0 = 0 := by decide +kernel
  rw [← e]; exact kind_any 0 (by decide) w
theorem k2 (w : World) : Calls Try.prog 51 #[.int .u64 1] w fun e w' => e = .returned (.int .i64 1) ∧ w = w' := by
  have e : kindI 1 = 1 := by decide +kernel
  rw [← e]; exact kind_any 1 (by decide) w
theorem k3 (w : World) : Calls Try.prog 51 #[.int .u64 4607182418800017408] w fun e w' => e = .returned (.int .i64 2) ∧ w = w' := by
  have e : kindI 4607182418800017408 = 2 := by decide +kernel
  rw [← e]; exact kind_any 4607182418800017408 (by decide) w
theorem k4 (w : World) : Calls Try.prog 51 #[.int .u64 18442240474082181120] w fun e w' => e = .returned (.int .i64 3) ∧ w = w' := by
  have e : kindI 18442240474082181120 = 3 := by decide +kernel
  rw [← e]; exact kind_any 18442240474082181120 (by decide) w
theorem k5 (w : World) : Calls Try.prog 51 #[.int .u64 9218868437227405313] w fun e w' => e = .returned (.int .i64 4) ∧ w = w' := by
  have e : kindI 9218868437227405313 = 4 := by decide +kernel
  rw [← e]; exact kind_any 9218868437227405313 (by decide) w
theorem n1 (w : World) : Calls Try.prog 53 #[.int .u64 0] w fun e w' => e = .returned (.int .u64 1) ∧ w = w' := by
  have e : nextI 0 = 1 := by decide +kernel
  rw [← e]; exact next_any 0 (by decide) w
theorem n2 (w : World) : Calls Try.prog 53 #[.int .u64 9223372036854775808] w fun e w' => e = .returned (.int .u64 1) ∧ w = w' := by
  have e : nextI 9223372036854775808 = 1 := by decide +kernel
  rw [← e]; exact next_any 9223372036854775808 (by decide) w
theorem n3 (w : World) : Calls Try.prog 53 #[.int .u64 9218868437227405311] w fun e w' => e = .returned (.int .u64 9218868437227405312) ∧ w = w' := by
  have e : nextI 9218868437227405311 = 9218868437227405312 := by decide +kernel
  rw [← e]; exact next_any 9218868437227405311 (by decide) w
theorem n4 (w : World) : Calls Try.prog 53 #[.int .u64 18442240474082181120] w fun e w' => e = .returned (.int .u64 18442240474082181119) ∧ w = w' := by
  have e : nextI 18442240474082181120 = 18442240474082181119 := by decide +kernel
  rw [← e]; exact next_any 18442240474082181120 (by decide) w
theorem n5 (w : World) : Calls Try.prog 53 #[.int .u64 9223372036854775809] w fun e w' => e = .returned (.int .u64 9223372036854775808) ∧ w = w' := by
  have e : nextI 9223372036854775809 = 9223372036854775808 := by decide +kernel
  rw [← e]; exact next_any 9223372036854775809 (by decide) w
theorem pv1 (w : World) : Calls Try.prog 54 #[.int .u64 0] w fun e w' => e = .returned (.int .u64 9223372036854775809) ∧ w = w' := by
  have e : prevI 0 = 9223372036854775809 := by decide +kernel
  rw [← e]; exact prev_any 0 (by decide) w
theorem ng1 (w : World) : Calls Try.prog 55 #[.int .u64 9218868437227405313] w fun e w' => e = .returned (.int .u64 9221120237041090560) ∧ w = w' := by
  have e : negI 9218868437227405313 = 9221120237041090560 := by decide +kernel
  rw [← e]; exact neg_any 9218868437227405313 (by decide) w
theorem sp1 (w : World) : Calls Try.prog 52 #[.int .u64 13832806255468478464] w fun e w' => e = .returned (.tuple #[.bool true, .int .u64 6755399441055744, .int .i64 (-52)]) ∧ w = w' := by
  have e1 : negB 13832806255468478464 = true := by decide +kernel
  have e2 : mantI 13832806255468478464 = 6755399441055744 := by decide +kernel
  have e3 : powI 13832806255468478464 = -52 := by decide +kernel
  rw [← e1, ← e2, ← e3]; exact split_any 13832806255468478464 (by decide) w
theorem sp2 (w : World) : Calls Try.prog 52 #[.int .u64 5] w fun e w' => e = .returned (.tuple #[.bool false, .int .u64 5, .int .i64 (-1074)]) ∧ w = w' := by
  have e1 : negB 5 = false := by decide +kernel
  have e2 : mantI 5 = 5 := by decide +kernel
  have e3 : powI 5 = -1074 := by decide +kernel
  rw [← e1, ← e2, ← e3]; exact split_any 5 (by decide) w

set_option maxRecDepth 100000 in
set_option maxHeartbeats 4000000 in
theorem shown3_any (w : World) : Calls Try.prog 34 #[] w (TruePost w) := by
  go_enter Try.func34, Try.ntmps34
  go_wp2_with fail
  refine (k1 _).mono ?_
  rintro e w' ⟨rfl, rfl⟩
  go_wp2_with fail
  refine (k2 _).mono ?_
  rintro e w' ⟨rfl, rfl⟩
  go_wp2_with fail
  refine (k3 _).mono ?_
  rintro e w' ⟨rfl, rfl⟩
  go_wp2_with fail
  refine (k4 _).mono ?_
  rintro e w' ⟨rfl, rfl⟩
  go_wp2_with fail
  refine (k5 _).mono ?_
  rintro e w' ⟨rfl, rfl⟩
  go_wp2_with fail
  refine (sp1 _).mono ?_
  rintro e w' ⟨rfl, rfl⟩
  go_wp2_with fail
  refine (sp2 _).mono ?_
  rintro e w' ⟨rfl, rfl⟩
  go_wp2_with fail
  refine (j1 _).mono ?_
  rintro e w1 ⟨rfl, hb1⟩
  have HB1 := Lib.hid hb1
  clear hb1
  go_wp2_with fail
  refine (j2 _).mono ?_
  rintro e w2 ⟨rfl, hb2⟩
  have HB2 : Hid (Below w.heap.size w w2) := HB1.out.trans (hb2.mono HB1.out.size)
  clear hb2
  go_wp2_with fail
  refine (j3 _).mono ?_
  rintro e w3 ⟨rfl, hb3⟩
  have HB3 : Hid (Below w.heap.size w w3) := HB2.out.trans (hb3.mono HB2.out.size)
  clear hb3
  go_wp2_with fail
  refine (j4 _).mono ?_
  rintro e w4 ⟨rfl, hb4⟩
  have HB4 : Hid (Below w.heap.size w w4) := HB3.out.trans (hb4.mono HB3.out.size)
  clear hb4
  go_wp2_with fail
  refine (j5 _).mono ?_
  rintro e w5 ⟨rfl, hb5⟩
  have HB5 : Hid (Below w.heap.size w w5) := HB4.out.trans (hb5.mono HB4.out.size)
  clear hb5
  go_wp2_with fail
  refine (j6 _).mono ?_
  rintro e w6 ⟨rfl, hb6⟩
  have HB6 : Hid (Below w.heap.size w w6) := HB5.out.trans (hb6.mono HB5.out.size)
  clear hb6
  go_wp2_with fail
  refine (j7 _).mono ?_
  rintro e w7 ⟨rfl, hb7⟩
  have HB7 : Hid (Below w.heap.size w w7) := HB6.out.trans (hb7.mono HB6.out.size)
  clear hb7
  go_wp2_with fail
  refine (j8 _).mono ?_
  rintro e w8 ⟨rfl, hb8⟩
  have HB8 : Hid (Below w.heap.size w w8) := HB7.out.trans (hb8.mono HB7.out.size)
  clear hb8
  go_wp2_with fail
  refine (n1 _).mono ?_
  rintro e w' ⟨rfl, rfl⟩
  go_wp2_with fail
  refine (n2 _).mono ?_
  rintro e w' ⟨rfl, rfl⟩
  go_wp2_with fail
  refine (n3 _).mono ?_
  rintro e w' ⟨rfl, rfl⟩
  go_wp2_with fail
  refine (n4 _).mono ?_
  rintro e w' ⟨rfl, rfl⟩
  go_wp2_with fail
  refine (n5 _).mono ?_
  rintro e w' ⟨rfl, rfl⟩
  go_wp2_with fail
  refine (pv1 _).mono ?_
  rintro e w' ⟨rfl, rfl⟩
  go_wp2_with fail
  refine (ng1 _).mono ?_
  rintro e w' ⟨rfl, rfl⟩
  go_wp2
  go_ret
  exact ⟨rfl, HB8.out⟩
end Go.Proofs.Ytogldkjhcmlneaa
