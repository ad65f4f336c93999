/-
  The statement FloatNexts, walked.
-/
import Derived.Test.YtcalkaeogogcbaaX1
namespace Go.Proofs.Ytcalkaeogogcbaa
open Go.RowKit Go.Shelf

theorem kind_ne4 (x : Int) (h : absI x ≤ 9218868437227405312) : kindI x ≠ 4 := by
  unfold kindI
  repeat' split
  all_goals omega
theorem neg_pos (a : Int) (h0 : 0 ≤ a) (h1 : a ≤ 9218868437227405312) : negI a = a + 9223372036854775808 := by
  unfold negI; rw [if_neg (kind_ne4 a (by unfold absI; omega))]; unfold turnI; omega
theorem neg_neg' (x : Int) (h0 : 9223372036854775808 ≤ x) (h1 : x ≤ 18442240474082181120) : negI x = x - 9223372036854775808 := by
  unfold negI; rw [if_neg (kind_ne4 x (by unfold absI; omega))]; unfold turnI; omega
theorem next_pos (a : Int) (h0 : 0 < a) (h1 : a < 9218868437227405312) : nextI a = a + 1 := by
  unfold nextI; rw [if_neg (kind_ne4 a (by unfold absI; omega)), if_neg (by unfold absI; omega), if_neg (by omega), if_neg (by omega)]
theorem next_neg (x : Int) (h0 : 9223372036854775808 < x) (h1 : x ≤ 18442240474082181120) : nextI x = x - 1 := by
  unfold nextI; rw [if_neg (kind_ne4 x (by unfold absI; omega)), if_neg (by unfold absI; omega), if_neg (by omega), if_pos (by omega)]
theorem prev_up (y : Int) (h0 : 1 < y) (h1 : y ≤ 9218868437227405312) : prevI y = y - 1 := by
  unfold prevI; rw [neg_pos y (by omega) h1, next_neg _ (by omega) (by omega), neg_neg' _ (by omega) (by omega)]; omega
theorem prev_down (y : Int) (h0 : 9223372036854775808 < y) (h1 : y < 18442240474082181120) : prevI y = y + 1 := by
  unfold prevI; rw [neg_neg' y (by omega) (by omega), next_pos _ (by omega) (by omega), neg_pos _ (by omega) (by omega)]; omega
theorem kind_mid (x : Int) (h0 : 0 < absI x) (h1 : absI x < 9218868437227405312) : (kindI x == 4) = false ∧ (kindI x == 0) = false ∧ (kindI x == 3) = false := by
  unfold kindI
  rw [if_neg (by omega), if_neg (by omega)]
  split
  · decide
  · rw [if_neg (by omega)]; decide
theorem exp_lt (x : Int) (h : Word x) (h1 : absI x < 9218868437227405312) : expI x < 2047 := by
  obtain ⟨e, a, b, c, d⟩ := abs_parts x h; omega
theorem mant_bd (x : Int) (h : Word x) (h1 : absI x < 9218868437227405312) (h2 : 0 < absI x) : 0 < mantI x ∧ mantI x < 9007199254740992 ∧ -1074 ≤ powI x ∧ powI x ≤ 971 := by
  obtain ⟨e, a, b, c, d⟩ := abs_parts x h
  unfold mantI powI
  have c47 : ¬ expI x = 2047 := by omega
  rw [if_neg c47, if_neg c47]
  by_cases c0 : expI x = 0
  · rw [if_pos c0, if_pos c0]; omega
  · rw [if_neg c0, if_neg c0]; omega
theorem split_vars (x m q : Int) (ng : Bool) (h : Word x) (h1 : negB x = ng) (h2 : mantI x = m) (h3 : powI x = q) (w : World) : Calls Try.prog 21 #[.int .u64 x] w fun e w' => e = .returned (.tuple #[.bool ng, .int .u64 m, .int .i64 q]) ∧ w = w' := by
  subst h1; subst h2; subst h3; exact split_any x h w
theorem prev_vars (x y : Int) (h : Word x) (hy : prevI x = y) (w : World) : Calls Try.prog 33 #[.int .u64 x] w fun e w' => e = .returned (.int .u64 y) ∧ w = w' := by subst hy; exact prev_any x h w

set_option maxRecDepth 100000 in
set_option maxHeartbeats 2000000 in
theorem nexts_none (x : Int) (h : Word x) (hk : kindI x = 4) (w : World) : Calls Try.prog 6 #[.int .u64 x] w (TruePost w) := by
  have e1 : nextI x = 9221120237041090560 := by unfold nextI; rw [if_pos hk]
  have e2 : prevI x = 9221120237041090560 := by
    have : negI x = 9221120237041090560 := by unfold negI; rw [if_pos hk]
    unfold prevI; rw [this]; decide +kernel
  have K := Lib.hid (fun w => kind_vars x 4 h hk w)
  have Nx := Lib.hid (fun w => next_vars x _ h e1 w)
  have Pv := Lib.hid (fun w => prev_vars x _ h e2 w)
  clear h hk e1 e2
  go_enter Try.func6, Try.ntmps6
  go_wp2_with fail
  refine (shown3_any _).mono ?_
  rintro e w1 ⟨rfl, hb1⟩
  have HB := Lib.hid hb1; clear hb1
  go_wp2_with fail
  refine (K.out _).mono ?_
  rintro e w' ⟨rfl, rfl⟩
  go_wp2_with fail
  refine (Nx.out _).mono ?_
  rintro e w' ⟨rfl, rfl⟩
  go_wp2_with fail
  refine (Pv.out _).mono ?_
  rintro e w' ⟨rfl, rfl⟩
  go_wp2
  go_ret
  exact ⟨rfl, HB.out⟩

set_option maxRecDepth 100000 in
set_option maxHeartbeats 2000000 in
theorem nexts_zero (x : Int) (h : Word x) (hk : kindI x = 0) (w : World) : Calls Try.prog 6 #[.int .u64 x] w (TruePost w) := by
  have hx : x = 0 ∨ x = 9223372036854775808 := by
    have : absI x = 0 := by
      unfold kindI at hk
      repeat' split at hk
      all_goals omega
    unfold absI Word at *; omega
  have e1 : nextI x = 1 := by rcases hx with rfl | rfl <;> decide +kernel
  have e2 : prevI x = 9223372036854775809 := by rcases hx with rfl | rfl <;> decide +kernel
  have K := Lib.hid (fun w => kind_vars x 0 h hk w)
  have Nx := Lib.hid (fun w => next_vars x _ h e1 w)
  have Pv := Lib.hid (fun w => prev_vars x _ h e2 w)
  clear h hk e1 e2 hx
  go_enter Try.func6, Try.ntmps6
  go_wp2_with fail
  refine (shown3_any _).mono ?_
  rintro e w1 ⟨rfl, hb1⟩
  have HB := Lib.hid hb1; clear hb1
  go_wp2_with fail
  refine (K.out _).mono ?_
  rintro e w' ⟨rfl, rfl⟩
  go_wp2_with fail
  refine (Nx.out _).mono ?_
  rintro e w' ⟨rfl, rfl⟩
  go_wp2_with fail
  refine (K.out _).mono ?_
  rintro e w' ⟨rfl, rfl⟩
  go_wp2_with fail
  refine (Pv.out _).mono ?_
  rintro e w' ⟨rfl, rfl⟩
  go_wp2
  go_ret
  exact ⟨rfl, HB.out⟩

set_option maxRecDepth 100000 in
set_option maxHeartbeats 2000000 in
theorem nexts_inf (w : World) : Calls Try.prog 6 #[.int .u64 9218868437227405312] w (TruePost w) := by
  go_enter Try.func6, Try.ntmps6
  go_wp2_with fail
  refine (shown3_any _).mono ?_
  rintro e w1 ⟨rfl, hb1⟩
  have HB := Lib.hid hb1; clear hb1
  go_wp2_with fail
  refine (kind_vars 9218868437227405312 3 (by decide) (by decide +kernel) _).mono ?_
  rintro e w' ⟨rfl, rfl⟩
  go_wp2_with fail
  refine (next_vars 9218868437227405312 9218868437227405312 (by decide) (by decide +kernel) _).mono ?_
  rintro e w' ⟨rfl, rfl⟩
  go_wp2_with fail
  refine (kind_vars 9218868437227405312 3 (by decide) (by decide +kernel) _).mono ?_
  rintro e w' ⟨rfl, rfl⟩
  go_wp2_with fail
  refine (prev_vars 9218868437227405312 9218868437227405311 (by decide) (by decide +kernel) _).mono ?_
  rintro e w' ⟨rfl, rfl⟩
  go_wp2
  go_ret
  exact ⟨rfl, HB.out⟩

set_option maxRecDepth 100000 in
set_option maxHeartbeats 2000000 in
theorem nexts_least (w : World) : Calls Try.prog 6 #[.int .u64 9223372036854775809] w (TruePost w) := by
  go_enter Try.func6, Try.ntmps6
  go_wp2_with fail
  refine (shown3_any _).mono ?_
  rintro e w1 ⟨rfl, hb1⟩
  have HB := Lib.hid hb1; clear hb1
  go_wp2_with fail
  refine (kind_vars 9223372036854775809 1 (by decide) (by decide +kernel) _).mono ?_
  rintro e w' ⟨rfl, rfl⟩
  go_wp2_with fail
  refine (next_vars 9223372036854775809 9223372036854775808 (by decide) (by decide +kernel) _).mono ?_
  rintro e w' ⟨rfl, rfl⟩
  go_wp2_with fail
  refine (kind_vars 9223372036854775809 1 (by decide) (by decide +kernel) _).mono ?_
  rintro e w' ⟨rfl, rfl⟩
  go_wp2
  go_ret
  exact ⟨rfl, HB.out⟩

set_option maxRecDepth 100000 in
set_option maxHeartbeats 2000000 in
theorem nexts_neginf (w : World) : Calls Try.prog 6 #[.int .u64 18442240474082181120] w (TruePost w) := by
  go_enter Try.func6, Try.ntmps6
  go_wp2_with fail
  refine (shown3_any _).mono ?_
  rintro e w1 ⟨rfl, hb1⟩
  have HB := Lib.hid hb1; clear hb1
  go_wp2_with fail
  refine (kind_vars 18442240474082181120 3 (by decide) (by decide +kernel) _).mono ?_
  rintro e w' ⟨rfl, rfl⟩
  go_wp2_with fail
  refine (next_vars 18442240474082181120 18442240474082181119 (by decide) (by decide +kernel) _).mono ?_
  rintro e w' ⟨rfl, rfl⟩
  go_wp2_with fail
  refine (kind_vars 18442240474082181120 3 (by decide) (by decide +kernel) _).mono ?_
  rintro e w' ⟨rfl, rfl⟩
  go_wp2_with fail
  refine (split_vars 18442240474082181120 0 (0) true (by decide) (by decide +kernel) (by decide +kernel) (by decide +kernel) _).mono ?_
  rintro e w' ⟨rfl, rfl⟩
  go_wp2_with fail
  refine (kind_vars 18442240474082181120 3 (by decide) (by decide +kernel) _).mono ?_
  rintro e w' ⟨rfl, rfl⟩
  go_wp2_with fail
  refine (prev_vars 18442240474082181119 18442240474082181120 (by decide) (by decide +kernel) _).mono ?_
  rintro e w' ⟨rfl, rfl⟩
  go_wp2
  go_ret
  exact ⟨rfl, HB.out⟩

set_option maxRecDepth 100000 in
set_option maxHeartbeats 2000000 in
theorem nexts_most (w : World) : Calls Try.prog 6 #[.int .u64 9218868437227405311] w (TruePost w) := by
  go_enter Try.func6, Try.ntmps6
  go_wp2_with fail
  refine (shown3_any _).mono ?_
  rintro e w1 ⟨rfl, hb1⟩
  have HB := Lib.hid hb1; clear hb1
  go_wp2_with fail
  refine (kind_vars 9218868437227405311 2 (by decide) (by decide +kernel) _).mono ?_
  rintro e w' ⟨rfl, rfl⟩
  go_wp2_with fail
  refine (next_vars 9218868437227405311 9218868437227405312 (by decide) (by decide +kernel) _).mono ?_
  rintro e w' ⟨rfl, rfl⟩
  go_wp2_with fail
  refine (kind_vars 9218868437227405311 2 (by decide) (by decide +kernel) _).mono ?_
  rintro e w' ⟨rfl, rfl⟩
  go_wp2_with fail
  refine (split_vars 9218868437227405311 9007199254740991 (971) false (by decide) (by decide +kernel) (by decide +kernel) (by decide +kernel) _).mono ?_
  rintro e w' ⟨rfl, rfl⟩
  go_wp2_with fail
  refine (kind_vars 9218868437227405311 2 (by decide) (by decide +kernel) _).mono ?_
  rintro e w' ⟨rfl, rfl⟩
  go_wp2_with fail
  refine (kind_vars 9218868437227405312 3 (by decide) (by decide +kernel) _).mono ?_
  rintro e w' ⟨rfl, rfl⟩
  go_wp2_with fail
  refine (prev_vars 9218868437227405312 9218868437227405311 (by decide) (by decide +kernel) _).mono ?_
  rintro e w' ⟨rfl, rfl⟩
  go_wp2
  go_ret
  exact ⟨rfl, HB.out⟩

set_option maxRecDepth 100000 in
set_option maxHeartbeats 2000000 in
theorem nexts_neg (x : Int) (h : Word x) (h0 : 9223372036854775809 < x) (h1 : x < 18442240474082181120) (w : World) : Calls Try.prog 6 #[.int .u64 x] w (TruePost w) := by
  have ha : absI x = x - 9223372036854775808 := by unfold absI; omega
  have hb : absI (x - 1) = x - 1 - 9223372036854775808 := by unfold absI; omega
  obtain ⟨k4, k0, k3⟩ := kind_mid x (by omega) (by omega)
  obtain ⟨_, _, y3⟩ := kind_mid (x - 1) (by omega) (by omega)
  have wy : Word (x - 1) := by unfold Word at *; omega
  have ey := next_neg x (by omega) (by omega)
  have ep : prevI (x - 1) = x := by rw [prev_down (x - 1) (by omega) (by omega)]; omega
  obtain ⟨m0, m1, q0, q1⟩ := mant_bd x h (by omega) (by omega)
  have hj := near_less x h (exp_lt x h (by omega)) (by omega)
  have hn : negB x = true := by unfold negB; simp; omega
  rw [ha, show (9223372036854775808 : Int) + (x - 9223372036854775808) = x by omega] at hj
  obtain ⟨k, hk⟩ : ∃ k, kindI x = k := ⟨_, rfl⟩
  obtain ⟨ky, hky⟩ : ∃ k, kindI (x - 1) = k := ⟨_, rfl⟩
  obtain ⟨m, hm⟩ : ∃ k, mantI x = k := ⟨_, rfl⟩
  obtain ⟨q, hq⟩ : ∃ k, powI x = k := ⟨_, rfl⟩
  have K := Lib.hid (fun w => kind_vars x k h hk w)
  have KY := Lib.hid (fun w => kind_vars (x - 1) ky wy hky w)
  have Nx := Lib.hid (fun w => next_vars x _ h ey w)
  have Pv := Lib.hid (fun w => prev_vars (x - 1) x wy ep w)
  have Sp := Lib.hid (fun w => split_vars x m q true h hn hm hq w)
  rw [hk] at k4 k0 k3
  rw [hky] at y3
  rw [hm] at m0 m1 hj
  rw [hq] at q0 q1 hj
  have J : Hid (∀ w, Calls Try.prog 35 #[.bool true, .agg #[.int .u64 0, .int .u64 (4 * m - 1)], .int .i64 (q - 2), .bool true] w fun e w' => e = .returned (.int .u64 x) ∧ Below w.heap.size w w') := fun w => by
    have hv : val 0 (4 * m - 1) = 4 * m - 1 := by unfold val; omega
    have := (join_any true 0 (4 * m - 1) (q - 2) true (by decide) ⟨by omega, by omega⟩ (by omega) (by omega) w)
    rw [hv] at this
    refine (this.mono (JoinPost.small (by omega) (by omega) w)).mono ?_
    rintro e w' ⟨rfl, hb⟩
    exact ⟨by rw [hj], hb⟩
  have x2 : (x == 9218868437227405312) = false := by simp; omega
  have y2 : (x - 1 == 9223372036854775808) = false := by simp; omega
  clear h hk hky hm hq hj hn ey ep wy ha hb
  have x0 : 1 ≤ x := by omega
  have lt : x - 1 < x := by omega
  go_enter Try.func6, Try.ntmps6
  go_wp2_with fail
  refine (shown3_any _).mono ?_
  rintro e w1 ⟨rfl, hb1⟩
  have HB := Lib.hid hb1; clear hb1
  go_wp2_with fail
  refine (K.out _).mono ?_
  rintro e w' ⟨rfl, rfl⟩
  go_wp2_with fail
  refine (Nx.out _).mono ?_
  rintro e w' ⟨rfl, rfl⟩
  go_wp2_with fail
  refine (K.out _).mono ?_
  rintro e w' ⟨rfl, rfl⟩
  go_wp2_with fail
  refine (Sp.out _).mono ?_
  rintro e w' ⟨rfl, rfl⟩
  go_wp2_with fail
  refine (K.out _).mono ?_
  rintro e w' ⟨rfl, rfl⟩
  go_wp2_with fail
  refine (KY.out _).mono ?_
  rintro e w' ⟨rfl, rfl⟩
  go_wp2_with fail
  refine (Pv.out _).mono ?_
  rintro e w' ⟨rfl, rfl⟩
  go_wp2_with fail
  refine (J.out _).mono ?_
  rintro e w2 ⟨rfl, hb2⟩
  go_wp2
  go_ret
  exact ⟨rfl, HB.out.trans (hb2.mono HB.out.size)⟩

set_option maxRecDepth 100000 in
set_option maxHeartbeats 2000000 in
theorem nexts_pos (x : Int) (h : Word x) (h0 : 0 < x) (h1 : x < 9218868437227405311) (w : World) : Calls Try.prog 6 #[.int .u64 x] w (TruePost w) := by
  have ha : absI x = x := by unfold absI; omega
  have hb : absI (x + 1) = x + 1 := by unfold absI; omega
  obtain ⟨k4, k0, k3⟩ := kind_mid x (by omega) (by omega)
  obtain ⟨_, _, y3⟩ := kind_mid (x + 1) (by omega) (by omega)
  have wy : Word (x + 1) := by unfold Word at *; omega
  have ey := next_pos x (by omega) (by omega)
  have ep : prevI (x + 1) = x := by rw [prev_up (x + 1) (by omega) (by omega)]; omega
  obtain ⟨m0, m1, q0, q1⟩ := mant_bd x h (by omega) (by omega)
  have hj := near_next x h (exp_lt x h (by omega)) (by omega) (by omega)
  have hn : negB x = false := by unfold negB; simp; omega
  rw [ha] at hj
  obtain ⟨k, hk⟩ : ∃ k, kindI x = k := ⟨_, rfl⟩
  obtain ⟨ky, hky⟩ : ∃ k, kindI (x + 1) = k := ⟨_, rfl⟩
  obtain ⟨m, hm⟩ : ∃ k, mantI x = k := ⟨_, rfl⟩
  obtain ⟨q, hq⟩ : ∃ k, powI x = k := ⟨_, rfl⟩
  have K := Lib.hid (fun w => kind_vars x k h hk w)
  have KY := Lib.hid (fun w => kind_vars (x + 1) ky wy hky w)
  have Nx := Lib.hid (fun w => next_vars x _ h ey w)
  have Pv := Lib.hid (fun w => prev_vars (x + 1) x wy ep w)
  have Sp := Lib.hid (fun w => split_vars x m q false h hn hm hq w)
  rw [hk] at k4 k0 k3
  rw [hky] at y3
  rw [hm] at m0 m1 hj
  rw [hq] at q0 q1 hj
  have J : Hid (∀ w, Calls Try.prog 35 #[.bool false, .agg #[.int .u64 0, .int .u64 (m + 1)], .int .i64 q, .bool false] w fun e w' => e = .returned (.int .u64 (x + 1)) ∧ Below w.heap.size w w') := fun w => by
    have hv : val 0 (m + 1) = m + 1 := by unfold val; omega
    have := (join_any false 0 (m + 1) q false (by decide) ⟨by omega, by omega⟩ (by omega) (by omega) w)
    rw [hv] at this
    refine (this.mono (JoinPost.small (by omega) (by omega) w)).mono ?_
    rintro e w' ⟨rfl, hb⟩
    exact ⟨by rw [hj], hb⟩
  have x2 : (x == 9218868437227405312) = false := by simp; omega
  have y2 : (x + 1 == 9223372036854775808) = false := by simp; omega
  clear h hk hky hm hq hj hn ey ep wy ha hb
  go_enter Try.func6, Try.ntmps6
  go_wp2_with fail
  refine (shown3_any _).mono ?_
  rintro e w1 ⟨rfl, hb1⟩
  have HB := Lib.hid hb1; clear hb1
  go_wp2_with fail
  refine (K.out _).mono ?_
  rintro e w' ⟨rfl, rfl⟩
  go_wp2_with fail
  refine (Nx.out _).mono ?_
  rintro e w' ⟨rfl, rfl⟩
  go_wp2_with fail
  refine (K.out _).mono ?_
  rintro e w' ⟨rfl, rfl⟩
  go_wp2_with fail
  refine (Sp.out _).mono ?_
  rintro e w' ⟨rfl, rfl⟩
  go_wp2_with fail
  refine (K.out _).mono ?_
  rintro e w' ⟨rfl, rfl⟩
  go_wp2_with fail
  refine (KY.out _).mono ?_
  rintro e w' ⟨rfl, rfl⟩
  go_wp2_with fail
  refine (Pv.out _).mono ?_
  rintro e w' ⟨rfl, rfl⟩
  go_wp2_with fail
  refine (J.out _).mono ?_
  rintro e w2 ⟨rfl, hb2⟩
  go_wp2
  go_ret
  exact ⟨rfl, HB.out.trans (hb2.mono HB.out.size)⟩

theorem nexts_any (x : Int) (h : Word x) (w : World) : Calls Try.prog 6 #[.int .u64 x] w (TruePost w) := by
  by_cases c4 : kindI x = 4
  · exact nexts_none x h c4 w
  by_cases c0 : kindI x = 0
  · exact nexts_zero x h c0 w
  have ha : absI x ≤ 9218868437227405312 := by
    unfold kindI at c4
    by_cases c : 9218868437227405312 < absI x
    · rw [if_pos c] at c4; omega
    · omega
  have hz : absI x ≠ 0 := fun e => c0 (by unfold kindI; rw [e]; decide)
  by_cases c1 : x = 9218868437227405312
  · subst c1; exact nexts_inf w
  by_cases c2 : x = 9223372036854775809
  · subst c2; exact nexts_least w
  by_cases c3 : x = 18442240474082181120
  · subst c3; exact nexts_neginf w
  by_cases c5 : x = 9218868437227405311
  · subst c5; exact nexts_most w
  by_cases c6 : x < 9223372036854775808
  · exact nexts_pos x h (by unfold absI Word at *; omega) (by unfold absI Word at *; omega) w
  · exact nexts_neg x h (by unfold absI Word at *; omega) (by unfold absI Word at *; omega) w
end Go.Proofs.Ytcalkaeogogcbaa
