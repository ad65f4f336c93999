/-
  The statement WholeBack, walked.
-/
import Derived.Test.YtomeidbigofnaaaJ3
import Derived.Test.YtomeidbigofnaaaH2
namespace Go.Proofs.Ytomeidbigofnaaa
open Go.RowKit Go.Shelf

theorem to_from (u : Int) (h0 : -9007199254740992 ≤ u) (h1 : u ≤ 9007199254740992) (W : World) : Calls Try.prog 23 #[.int .u64 (fromV u), .int .i64 2] W (IntPost u 0 W) := by
  have H : Holds (fromV u) (if u < 0 then -u else u) (decide (u < 0)) := by
    unfold fromV; exact holds_small _ (by split <;> omega) (by split <;> omega)
  generalize fromV u = F at *
  have e : natX 2 F = if u < 0 then -u else u := by
    unfold natX upX; rw [H.left, H.whole]; simp
  have t := to_fin F 2 H.w (by decide) (by decide) H.fin W
  rw [e, H.neg] at t
  have e1 : toV (if u < 0 then -u else u) (decide (u < 0)) = u := by
    unfold toV
    by_cases c : u < 0
    · simp only [c, if_true, decide_true]
      rw [if_neg (by simp; omega)]; simp
    · simp only [c, if_false, decide_false]
      rw [if_neg (by omega)]; simp
  have e2 : toE (if u < 0 then -u else u) (decide (u < 0)) = 0 := by
    unfold toE
    by_cases c : u < 0
    · simp only [c, if_true, decide_true]
      rw [if_neg (by simp; omega)]
    · simp only [c, if_false, decide_false]
      rw [if_neg (by omega)]
  rw [e1, e2] at t
  exact t
theorem to_cases (x : Int) (h : Word x) : (∃ k : Int, k ≠ 0 ∧ ∀ W, Calls Try.prog 23 #[.int .u64 x, .int .i64 0] W (IntPost 0 k W)) ∨
    (∃ m : Int, -9223372036854775808 ≤ m ∧ m ≤ 9223372036854775807 ∧ (∀ W, Calls Try.prog 23 #[.int .u64 x, .int .i64 0] W (IntPost m 0 W)) ∧ (fromV m = wholeV 0 x ∨ (fromV m = 0 ∧ wholeV 0 x = 9223372036854775808))) := by
  by_cases d : kindI x < 3
  · have n0 := (holds_whole 0 h d).n0
    have t := fun W => to_fin x 0 h (by decide) (by decide) d W
    have e : wholeV 0 x = rndI (negB x) (natX 0 x) 0 := by unfold wholeV; rw [if_neg (by omega)]; rfl
    rw [e]
    generalize natX 0 x = N at *
    generalize negB x = s at *
    by_cases c : 9223372036854775808 < N ∨ (N = 9223372036854775808 ∧ s = false)
    · rw [show toV N s = 0 by unfold toV; rw [if_pos c], show toE N s = 6 by unfold toE; rw [if_pos c]] at t
      exact .inl ⟨6, by decide, t⟩
    · rw [show toE N s = 0 by unfold toE; rw [if_neg c]] at t
      have ev : toV N s = if s = true then -N else N := by unfold toV; rw [if_neg c]
      refine .inr ⟨toV N s, ?_, ?_, t, ?_⟩
      · rw [ev]; split <;> omega
      · rw [ev]; cases s <;> simp at c ⊢ <;> omega
      · rw [ev]
        by_cases z : N = 0
        · subst z
          cases s
          · exact .inl (by decide +kernel)
          · exact .inr ⟨by decide +kernel, by decide +kernel⟩
        · refine .inl ?_
          unfold fromV
          cases s
          · simp only [if_neg (show ¬ (false = true) by decide)]
            rw [if_neg (by omega), show decide (N < 0) = false by simp; omega]
          · simp only [if_true]
            rw [if_pos (by omega), show decide (-N < 0) = true by simp; omega, Int.neg_neg]
  · exact .inl ⟨11, by decide, fun W => to_none x 0 h (by decide) (by decide) (by omega) W⟩
set_option maxRecDepth 100000 in
set_option maxHeartbeats 4000000 in
theorem back6_any (v x : Int) (v0 : -9223372036854775808 ≤ v) (v1 : v ≤ 9223372036854775807) (h : Word x) (w : World) : Calls Try.prog 7 #[.int .i64 v, .int .u64 x] w (BoolPost true w) := by
  have WA := Lib.hid (fun W => whole_at x 0 h (by decide) (by decide) W)
  have C := to_cases x h
  obtain ⟨u, hu⟩ : ∃ z, v / 1024 = z := ⟨_, rfl⟩
  have ub : -9007199254740992 ≤ u ∧ u ≤ 9007199254740992 := by rw [← hu]; omega
  have F1 := Lib.hid (fun W => wfrom_any u (by omega) (by omega) W)
  have T1 := Lib.hid (fun W => to_from u ub.1 ub.2 W)
  generalize fromV u = fu at *
  generalize wholeV 0 x = V at *
  have t0 : (u == u) = true := beq_self_eq_true u
  clear h v0 v1 ub
  rcases C with ⟨k, k0, TX⟩ | ⟨m, m0, m1, TX, FE⟩
  · have TX := Lib.hid TX
    have t1 : (k == 0) = false := by simpa using k0
    clear k0 WA
    go_enter Try.func7, Try.ntmps7
    go_wp2_with fail
    refine (shown6_any _).mono ?_
    rintro e w1 ⟨rfl, hb1⟩
    go_wp2_with fail
    refine (F1.out _).mono ?_
    rintro e w2 ⟨rfl, hb2⟩
    have hB2 := hb1.trans (hb2.mono hb1.size)
    go_wp2_with fail
    refine (T1.out _).mono ?_
    rintro e w3 ⟨rfl, hb3⟩
    have hB3 := hB2.trans (hb3.mono hB2.size)
    clear hb1 hb2 hb3 hB2
    go_wp2_with fail
    refine (TX.out _).mono ?_
    rintro e w4 ⟨rfl, hb4⟩
    have hB4 := hB3.trans (hb4.mono hB3.size)
    go_wp2
    go_ret
    exact ⟨rfl, hB4⟩
  · have TX := Lib.hid TX
    have F2 := Lib.hid (fun W => wfrom_any m m0 m1 W)
    generalize fromV m = z at *
    clear m0 m1
    have run : ∀ _ : (z == V) = true ∨ ((z == V) = false ∧ z = 0 ∧ V = 9223372036854775808), Calls Try.prog 7 #[.int .i64 v, .int .u64 x] w (BoolPost true w) := by
      rintro (t1 | ⟨t1, rfl, rfl⟩)
      all_goals
        clear FE
        go_enter Try.func7, Try.ntmps7
        go_wp2_with fail
        refine (shown6_any _).mono ?_
        rintro e w1 ⟨rfl, hb1⟩
        go_wp2_with fail
        refine (F1.out _).mono ?_
        rintro e w2 ⟨rfl, hb2⟩
        have hB2 := hb1.trans (hb2.mono hb1.size)
        go_wp2_with fail
        refine (T1.out _).mono ?_
        rintro e w3 ⟨rfl, hb3⟩
        have hB3 := hB2.trans (hb3.mono hB2.size)
        clear hb1 hb2 hb3 hB2
        go_wp2_with fail
        refine (TX.out _).mono ?_
        rintro e w4 ⟨rfl, hb4⟩
        have hB4 := hB3.trans (hb4.mono hB3.size)
        go_wp2_with fail
        refine (WA.out _).mono ?_
        rintro e w5 ⟨rfl, hb5⟩
        have hB5 := hB4.trans (hb5.mono hB4.size)
        clear hb4 hB3
        go_wp2_with fail
        refine (F2.out _).mono ?_
        rintro e w6 ⟨rfl, hb6⟩
        have hB6 := hB5.trans (hb6.mono hB5.size)
        go_wp2
        go_ret
        exact ⟨by first | rfl | simp, hB6⟩
    refine run ?_
    rcases FE with e | ⟨e1, e2⟩
    · exact .inl (by simpa using e)
    · exact .inr ⟨by rw [e1, e2]; decide, e1, e2⟩
end Go.Proofs.Ytomeidbigofnaaa
