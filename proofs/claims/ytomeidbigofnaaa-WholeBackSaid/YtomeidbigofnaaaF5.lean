/-
  The head of chapter 3's statements: the chapter's examples come out as it tells them.
-/
import Derived.Test.YtomeidbigofnaaaF4
namespace Go.Proofs.Ytomeidbigofnaaa
open Go.RowKit Go.Shelf

theorem len_unique {v : Int} {n m : Nat} (h1 : v < (2 ^ n : Nat)) (h2 : ((2 ^ n : Nat) : Int) ≤ 2 * v) (h3 : v < (2 ^ m : Nat)) (h4 : ((2 ^ m : Nat) : Int) ≤ 2 * v) : n = m := by
  rcases Nat.lt_trichotomy n m with h | h | h
  · have := Nat.pow_le_pow_right (show 0 < 2 by decide) (show n + 1 ≤ m by omega)
    rw [Nat.pow_succ] at this; omega
  · exact h
  · have := Nat.pow_le_pow_right (show 0 < 2 by decide) (show m + 1 ≤ n by omega)
    rw [Nat.pow_succ] at this; omega
/-- Join at a number of n bits. -/
def joinAt (neg : Bool) (v e : Int) (more : Bool) (n : Nat) : Int :=
  nearI neg (v / pw (max ((n : Int) - 64) 0)) (max ((n : Int) - 64) 0) e (Lib.bitLen (v / pw (max ((n : Int) - 64) 0)).toNat : Int) (more || (v % pw (max ((n : Int) - 64) 0) != 0))
theorem JoinPost.at {neg more : Bool} {v e : Int} (n : Nat) (h1 : v < (2 ^ n : Nat)) (h2 : ((2 ^ n : Nat) : Int) ≤ 2 * v) {r : Int} (hr : joinAt neg v e more n = r) :
    ∀ (w : World) (en : Ending) (w' : World), JoinPost neg v e more w en w' → en = .returned (.int .u64 r) ∧ Below w.heap.size w w' := by
  rintro w en w' ⟨m, over, top, size, lost, hm, h3, h4, rfl, rfl, hl, rfl, rfl, hb⟩
  have hv : v ≠ 0 := by have := Nat.two_pow_pos n; omega
  obtain rfl := len_unique h1 h2 h3 (h4 hv)
  refine ⟨?_, hb⟩
  rw [← hr]
  unfold joinAt
  congr 4
  cases lost
  · have := hl.1 rfl; simp [this]
  · have : ¬ v % pw (max ((n : Int) - 64) 0) = 0 := fun e => by have := hl.2 e; cases this
    simp [this]

theorem j1 (w : World) : Calls Try.prog 35 #[.bool false, .agg #[.int .u64 0, .int .u64 1], .int .i64 (0), .bool false] w fun e w' => e = .returned (.int .u64 4607182418800017408) ∧ Below w.heap.size w w' :=
  (join_any false 0 1 (0) false (by decide) (by decide) (by decide) (by decide) w).mono (JoinPost.at 1 (by decide +kernel) (by decide +kernel) (by decide +kernel) w)
theorem j2 (w : World) : Calls Try.prog 35 #[.bool true, .agg #[.int .u64 0, .int .u64 3], .int .i64 (-1), .bool false] w fun e w' => e = .returned (.int .u64 13832806255468478464) ∧ Below w.heap.size w w' :=
  (join_any true 0 3 (-1) false (by decide) (by decide) (by decide) (by decide) w).mono (JoinPost.at 2 (by decide +kernel) (by decide +kernel) (by decide +kernel) w)
theorem j3 (w : World) : Calls Try.prog 35 #[.bool false, .agg #[.int .u64 0, .int .u64 1], .int .i64 (-1075), .bool false] w fun e w' => e = .returned (.int .u64 0) ∧ Below w.heap.size w w' :=
  (join_any false 0 1 (-1075) false (by decide) (by decide) (by decide) (by decide) w).mono (JoinPost.at 1 (by decide +kernel) (by decide +kernel) (by decide +kernel) w)
theorem j4 (w : World) : Calls Try.prog 35 #[.bool false, .agg #[.int .u64 0, .int .u64 1], .int .i64 (-1075), .bool true] w fun e w' => e = .returned (.int .u64 1) ∧ Below w.heap.size w w' :=
  (join_any false 0 1 (-1075) true (by decide) (by decide) (by decide) (by decide) w).mono (JoinPost.at 1 (by decide +kernel) (by decide +kernel) (by decide +kernel) w)
theorem j5 (w : World) : Calls Try.prog 35 #[.bool false, .agg #[.int .u64 0, .int .u64 9007199254740993], .int .i64 (0), .bool false] w fun e w' => e = .returned (.int .u64 4845873199050653696) ∧ Below w.heap.size w w' :=
  (join_any false 0 9007199254740993 (0) false (by decide) (by decide) (by decide) (by decide) w).mono (JoinPost.at 54 (by decide +kernel) (by decide +kernel) (by decide +kernel) w)
theorem j6 (w : World) : Calls Try.prog 35 #[.bool false, .agg #[.int .u64 0, .int .u64 9007199254740995], .int .i64 (0), .bool false] w fun e w' => e = .returned (.int .u64 4845873199050653698) ∧ Below w.heap.size w w' :=
  (join_any false 0 9007199254740995 (0) false (by decide) (by decide) (by decide) (by decide) w).mono (JoinPost.at 54 (by decide +kernel) (by decide +kernel) (by decide +kernel) w)
theorem j7 (w : World) : Calls Try.prog 35 #[.bool false, .agg #[.int .u64 0, .int .u64 9007199254740993], .int .i64 (0), .bool true] w fun e w' => e = .returned (.int .u64 4845873199050653697) ∧ Below w.heap.size w w' :=
  (join_any false 0 9007199254740993 (0) true (by decide) (by decide) (by decide) (by decide) w).mono (JoinPost.at 54 (by decide +kernel) (by decide +kernel) (by decide +kernel) w)
theorem j8 (w : World) : Calls Try.prog 35 #[.bool false, .agg #[.int .u64 0, .int .u64 1], .int .i64 (1024), .bool false] w fun e w' => e = .returned (.int .u64 9218868437227405312) ∧ Below w.heap.size w w' :=
  (join_any false 0 1 (1024) false (by decide) (by decide) (by decide) (by decide) w).mono (JoinPost.at 1 (by decide +kernel) (by decide +kernel) (by decide +kernel) w)
theorem k1 (w : World) : Calls Try.prog 25 #[.int .u64 0] w fun e w' => e = .returned (.int .i64 0) ∧ w = w' := by
  have e : kindI 0 = 0 := by decide +kernel
  rw [← e]; exact kind_any 0 (by decide) w
theorem k2 (w : World) : Calls Try.prog 25 #[.int .u64 1] w fun e w' => e = .returned (.int .i64 1) ∧ w = w' := by
  have e : kindI 1 = 1 := by decide +kernel
  rw [← e]; exact kind_any 1 (by decide) w
theorem k3 (w : World) : Calls Try.prog 25 #[.int .u64 4607182418800017408] w fun e w' => e = .returned (.int .i64 2) ∧ w = w' := by
  have e : kindI 4607182418800017408 = 2 := by decide +kernel
  rw [← e]; exact kind_any 4607182418800017408 (by decide) w
theorem k4 (w : World) : Calls Try.prog 25 #[.int .u64 18442240474082181120] w fun e w' => e = .returned (.int .i64 3) ∧ w = w' := by
  have e : kindI 18442240474082181120 = 3 := by decide +kernel
  rw [← e]; exact kind_any 18442240474082181120 (by decide) w
theorem k5 (w : World) : Calls Try.prog 25 #[.int .u64 9218868437227405313] w fun e w' => e = .returned (.int .i64 4) ∧ w = w' := by
  have e : kindI 9218868437227405313 = 4 := by decide +kernel
  rw [← e]; exact kind_any 9218868437227405313 (by decide) w
theorem ng1 (w : World) : Calls Try.prog 41 #[.int .u64 9218868437227405313] w fun e w' => e = .returned (.int .u64 9221120237041090560) ∧ w = w' := by
  have e : negI 9218868437227405313 = 9221120237041090560 := by decide +kernel
  rw [← e]; exact neg_any 9218868437227405313 (by decide) w
theorem sp1 (w : World) : Calls Try.prog 39 #[.int .u64 13832806255468478464] w fun e w' => e = .returned (.tuple #[.bool true, .int .u64 6755399441055744, .int .i64 (-52)]) ∧ w = w' := by
  have e1 : negB 13832806255468478464 = true := by decide +kernel
  have e2 : mantI 13832806255468478464 = 6755399441055744 := by decide +kernel
  have e3 : powI 13832806255468478464 = -52 := by decide +kernel
  rw [← e1, ← e2, ← e3]; exact split_any 13832806255468478464 (by decide) w
theorem sp2 (w : World) : Calls Try.prog 39 #[.int .u64 5] w fun e w' => e = .returned (.tuple #[.bool false, .int .u64 5, .int .i64 (-1074)]) ∧ w = w' := by
  have e1 : negB 5 = false := by decide +kernel
  have e2 : mantI 5 = 5 := by decide +kernel
  have e3 : powI 5 = -1074 := by decide +kernel
  rw [← e1, ← e2, ← e3]; exact split_any 5 (by decide) w

end Go.Proofs.Ytomeidbigofnaaa
