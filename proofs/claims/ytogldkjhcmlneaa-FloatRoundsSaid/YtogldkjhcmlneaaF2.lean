/-
  The walks of package float, on: Split of the document, Next and Prev of both.
-/
import Derived.Test.YtogldkjhcmlneaaF1
namespace Go.Proofs.Ytogldkjhcmlneaa
open Go.RowKit Go.Shelf

/-- Next, by the order of the tests in the code. -/
theorem next_code (x : Int) (h : Word x) : nextI x = if kindI x = 4 then 9221120237041090560 else if x = 9223372036854775808 then 1 else if x = 9218868437227405312 then x else if 9223372036854775808 < x then x - 1 else x + 1 := by
  unfold nextI absI Word at *
  repeat' split
  all_goals omega
theorem next_ref (x : Int) (h : Word x) : nextI x = if kindI x = 4 then 9221120237041090560 else if kindI x = 0 then 1 else if x = 9218868437227405312 then 9218868437227405312 else if x < 9223372036854775808 then x + 1 else x - 1 := by
  have hk : kindI x = 0 ↔ absI x = 0 := by
    unfold kindI absI at *; repeat' split
    all_goals omega
  by_cases c : kindI x = 4
  · unfold nextI; rw [if_pos c, if_pos c]
  · unfold nextI
    rw [if_neg c, if_neg c]
    by_cases c0 : absI x = 0
    · rw [if_pos c0, if_pos (hk.2 c0)]
    · rw [if_neg c0, if_neg (fun e => c0 (hk.1 e))]
      unfold absI Word at *
      repeat' split
      all_goals omega

set_option maxHeartbeats 1000000 in
theorem next_any (x : Int) (h : Word x) (w : World) : Calls Try.prog 53 #[.int .u64 x] w fun e w' => e = .returned (.int .u64 (nextI x)) ∧ w = w' := by
  obtain ⟨k, hk⟩ : ∃ k, kindI x = k := ⟨_, rfl⟩
  have Hk := Lib.hid (fun w => kind_vars x k h hk w)
  have hr := Lib.hid (next_code x h)
  rw [hk] at hr
  have hkt : Hid (9223372036854775808 < x → k ≠ 4 → x - 1 = x - 1) := fun _ _ => rfl
  have hup : Hid (k ≠ 4 → x ≤ 9223372036854775808 → x < 9223372036854775808 ∨ x = 9223372036854775808) := fun _ _ => by omega
  have x0 := h.1
  have x1 := h.2
  clear hk h hkt
  by_cases c : k = 4
  · have e : Hid (nextI x = 9221120237041090560) := by rw [hr.out, if_pos c]; rfl
    have hc : (k == 4) = true := by simpa using c
    clear c hr
    go_enter Try.func53, Try.ntmps53
    go_wp2_with (go_at_call 51; refine (Hk.out _).mono ?_; rintro e w' ⟨rfl, rfl⟩)
    go_ret
    exact ⟨ret_u64 e.out.symm, rfl⟩
  · have hc : (k == 4) = false := by simpa using c
    by_cases c1 : x = 9223372036854775808
    · have e : Hid (nextI x = 1) := by rw [hr.out, if_neg c, if_pos c1]; rfl
      have hc1 : (x == 9223372036854775808) = true := by simpa using c1
      clear c hr c1 hup
      go_enter Try.func53, Try.ntmps53
      go_wp2_with (go_at_call 51; refine (Hk.out _).mono ?_; rintro e w' ⟨rfl, rfl⟩)
      go_ret
      exact ⟨ret_u64 e.out.symm, rfl⟩
    · have hc1 : (x == 9223372036854775808) = false := by simpa using c1
      by_cases c2 : x = 9218868437227405312
      · have e : Hid (nextI x = x) := by rw [hr.out, if_neg c, if_neg c1, if_pos c2]; rfl
        have hc2 : (x == 9218868437227405312) = true := by simpa using c2
        clear c hr c2 hup
        go_enter Try.func53, Try.ntmps53
        go_wp2_with (go_at_call 51; refine (Hk.out _).mono ?_; rintro e w' ⟨rfl, rfl⟩)
        go_ret
        exact ⟨ret_u64 e.out.symm, rfl⟩
      · have hc2 : (x == 9218868437227405312) = false := by simpa using c2
        by_cases c3 : 9223372036854775808 < x
        · have e : Hid (nextI x = x - 1) := by rw [hr.out, if_neg c, if_neg c1, if_neg c2, if_pos c3]; rfl
          clear c hr hup
          go_enter Try.func53, Try.ntmps53
          go_wp2_with (go_at_call 51; refine (Hk.out _).mono ?_; rintro e w' ⟨rfl, rfl⟩)
          go_ret
          exact ⟨ret_u64 e.out.symm, rfl⟩
        · have e : Hid (nextI x = x + 1) := by rw [hr.out, if_neg c, if_neg c1, if_neg c2, if_neg c3]; rfl
          clear c hr hup
          go_enter Try.func53, Try.ntmps53
          go_wp2_with (go_at_call 51; refine (Hk.out _).mono ?_; rintro e w' ⟨rfl, rfl⟩)
          go_ret
          exact ⟨ret_u64 e.out.symm, rfl⟩

theorem neg_word (x : Int) (_h : Word x) : Word (negI x) := by
  unfold negI; split
  · decide
  · unfold turnI Word; omega
theorem next_word (x : Int) (h : Word x) : Word (nextI x) := by
  have := next_code x h
  have hk : x = 18446744073709551615 → kindI x = 4 := by rintro rfl; decide
  unfold Word at *
  rw [this]
  repeat' split
  all_goals omega
theorem neg_vars (x y : Int) (h : Word x) (hy : negI x = y) (w : World) : Calls Try.prog 55 #[.int .u64 x] w fun e w' => e = .returned (.int .u64 y) ∧ w = w' := by subst hy; exact neg_any x h w
theorem next_vars (x y : Int) (h : Word x) (hy : nextI x = y) (w : World) : Calls Try.prog 53 #[.int .u64 x] w fun e w' => e = .returned (.int .u64 y) ∧ w = w' := by subst hy; exact next_any x h w
set_option maxHeartbeats 400000 in
theorem prev_any (x : Int) (h : Word x) (w : World) : Calls Try.prog 54 #[.int .u64 x] w fun e w' => e = .returned (.int .u64 (prevI x)) ∧ w = w' := by
  have hp : Hid (prevI x = negI (nextI (negI x))) := rfl
  obtain ⟨a, ha⟩ : ∃ a, negI x = a := ⟨_, rfl⟩
  obtain ⟨b, hb⟩ : ∃ b, nextI a = b := ⟨_, rfl⟩
  obtain ⟨c, hc⟩ : ∃ c, negI b = c := ⟨_, rfl⟩
  have wa : Word a := by rw [← ha]; exact neg_word x h
  have wb : Word b := by rw [← hb]; exact next_word a wa
  have A := Lib.hid (fun w => neg_vars x a h ha w)
  have B := Lib.hid (fun w => next_vars a b wa hb w)
  have C := Lib.hid (fun w => neg_vars b c wb hc w)
  have hp : Hid (c = prevI x) := by rw [hp.out, ha, hb, hc]; rfl
  clear ha hb hc wa wb h
  go_enter Try.func54, Try.ntmps54
  go_wp2_with fail
  refine (A.out _).mono ?_
  rintro e w1 ⟨rfl, rfl⟩
  go_wp2_with fail
  refine (B.out _).mono ?_
  rintro e w1 ⟨rfl, rfl⟩
  go_wp2_with fail
  refine (C.out _).mono ?_
  rintro e w1 ⟨rfl, rfl⟩
  go_wp2_with fail
  go_ret
  exact ⟨ret_u64 hp.out, rfl⟩
end Go.Proofs.Ytogldkjhcmlneaa
