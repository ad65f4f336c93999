/-
  The walks of package float, on: Split of the document, Next and Prev of both.
-/
import Derived.Test.YtomeidbigofnaaaF1
namespace Go.Proofs.Ytomeidbigofnaaa
open Go.RowKit Go.Shelf

set_option maxHeartbeats 1000000 in
theorem rsplit_any (x : Int) (h : Word x) (w : World) : Calls Try.prog 43 #[.int .u64 x] w fun e w' => e = .returned (.tuple #[.bool (negB x), .int .u64 (mantI x), .int .i64 (powI x)]) ∧ w = w' := by
  obtain ⟨_, b1, b2, b3, b4⟩ := abs_parts x h
  have hkp := kind_parts x h
  have he : x / 4503599627370496 % 2048 = expI x := rfl
  have hf : x % 4503599627370496 = fracI x := rfl
  obtain ⟨k, hk⟩ : ∃ k, kindI x = k := ⟨_, rfl⟩
  have Hk := Lib.hid (fun w => rkind_vars x k h hk w)
  rw [hk] at hkp
  have hm : Hid (mantI x = if expI x = 2047 then 0 else if expI x = 0 then fracI x else 4503599627370496 + fracI x) := rfl
  have hp : Hid (powI x = if expI x = 2047 then 0 else if expI x = 0 then -1074 else expI x - 1075) := rfl
  have Hs : Hid (∀ w, Calls Try.prog 32 #[.int .u64 x] w fun e w' => e = .returned (.bool (negB x)) ∧ w = w') := fun w => ris_any x w
  generalize negB x = ng at *
  generalize mantI x = m at *
  generalize powI x = q at *
  generalize expI x = p at *
  generalize fracI x = f at *
  have x0 := h.1
  have x1 := h.2
  clear h hk
  have fin : Hid (∀ (z1 z2 : Int), z1 = m → z2 = q → Ending.returned (.tuple #[.bool ng, .int .u64 z1, .int .i64 z2]) = .returned (.tuple #[.bool ng, .int .u64 m, .int .i64 q])) := fun z1 z2 e1 e2 => by rw [e1, e2]
  by_cases c1 : p = 2047
  · have hm : Hid (m = 0) := by rw [hm.out, if_pos c1]; rfl
    have hp : Hid (q = 0) := by rw [hp.out, if_pos c1]; rfl
    have k0 : (k == 0) = false := by rw [hkp, if_pos c1]; split <;> rfl
    have k1 : (k == 1) = false := by rw [hkp, if_pos c1]; split <;> rfl
    have k2 : (k == 2) = false := by rw [hkp, if_pos c1]; split <;> rfl
    clear c1 hkp he hf
    go_enter Try.func43, Try.ntmps43
    go_wp2_with (first | (go_at_call 30; refine (Hk.out _).mono ?_; rintro e w' ⟨rfl, rfl⟩) | (go_at_call 32; refine (Hs.out _).mono ?_; rintro e w' ⟨rfl, rfl⟩))
    go_ret3
    exact ⟨fin.out _ _ hm.out.symm hp.out.symm, rfl⟩
  · by_cases c2 : p = 0
    · have hm : Hid (m = f) := by rw [hm.out, if_neg c1, if_pos c2]; rfl
      have hp : Hid (q = -1074) := by rw [hp.out, if_neg c1, if_pos c2]; rfl
      rw [if_neg c1, if_pos c2] at hkp
      by_cases c3 : f = 0
      · have k0 : (k == 0) = true := by rw [hkp, if_pos c3]; rfl
        clear c1 c2 c3 hkp he
        go_enter Try.func43, Try.ntmps43
        go_wp2_with (first | (go_at_call 30; refine (Hk.out _).mono ?_; rintro e w' ⟨rfl, rfl⟩) | (go_at_call 32; refine (Hs.out _).mono ?_; rintro e w' ⟨rfl, rfl⟩))
        go_ret3
        exact ⟨fin.out _ _ (hf.trans hm.out.symm) hp.out.symm, rfl⟩
      · have k0 : (k == 0) = false := by rw [hkp, if_neg c3]; rfl
        have k1 : (k == 1) = true := by rw [hkp, if_neg c3]; rfl
        clear c1 c2 c3 hkp he
        go_enter Try.func43, Try.ntmps43
        go_wp2_with (first | (go_at_call 30; refine (Hk.out _).mono ?_; rintro e w' ⟨rfl, rfl⟩) | (go_at_call 32; refine (Hs.out _).mono ?_; rintro e w' ⟨rfl, rfl⟩))
        go_ret3
        exact ⟨fin.out _ _ (hf.trans hm.out.symm) hp.out.symm, rfl⟩
    · have hm : Hid (m = 4503599627370496 + f) := by rw [hm.out, if_neg c1, if_neg c2]; rfl
      have hp : Hid (q = p - 1075) := by rw [hp.out, if_neg c1, if_neg c2]; rfl
      rw [if_neg c1, if_neg c2] at hkp
      have k0 : (k == 0) = false := by rw [hkp]; rfl
      have k1 : (k == 1) = false := by rw [hkp]; rfl
      have k2 : (k == 2) = true := by rw [hkp]; rfl
      clear c1 c2 hkp
      go_enter Try.func43, Try.ntmps43
      go_wp2_with (first | (go_at_call 30; refine (Hk.out _).mono ?_; rintro e w' ⟨rfl, rfl⟩) | (go_at_call 32; refine (Hs.out _).mono ?_; rintro e w' ⟨rfl, rfl⟩))
      go_ret3
      exact ⟨fin.out _ _ hm.out.symm hp.out.symm, rfl⟩

/-- Next, by the order of the tests in the code. -/
theorem next_code (x : Int) (h : Word x) : nextI x = if kindI x = 4 then 9221120237041090560 else if x = 9223372036854775808 then 1 else if x = 9218868437227405312 then x else if 9223372036854775808 < x then x - 1 else x + 1 := by
  unfold nextI absI Word at *
  repeat' split
  all_goals omega
theorem next_ref (x : Int) (h : Word x) : nextI x = if kindI x = 4 then 9221120237041090560 else if kindI x = 0 then 1 else if x = 9218868437227405312 then 9218868437227405312 else if x < 9223372036854775808 then x + 1 else x - 1 := by
  have hk : kindI x = 0 ↔ absI x = 0 := by
    unfold kindI absI at *; repeat' split
    all_goals omega
  by_cases c : kindI x = 4
  · unfold nextI; rw [if_pos c, if_pos c]
  · unfold nextI
    rw [if_neg c, if_neg c]
    by_cases c0 : absI x = 0
    · rw [if_pos c0, if_pos (hk.2 c0)]
    · rw [if_neg c0, if_neg (fun e => c0 (hk.1 e))]
      unfold absI Word at *
      repeat' split
      all_goals omega

theorem neg_word (x : Int) (_h : Word x) : Word (negI x) := by
  unfold negI; split
  · decide
  · unfold turnI Word; omega
theorem next_word (x : Int) (h : Word x) : Word (nextI x) := by
  have := next_code x h
  have hk : x = 18446744073709551615 → kindI x = 4 := by rintro rfl; decide
  unfold Word at *
  rw [this]
  repeat' split
  all_goals omega
theorem neg_vars (x y : Int) (h : Word x) (hy : negI x = y) (w : World) : Calls Try.prog 41 #[.int .u64 x] w fun e w' => e = .returned (.int .u64 y) ∧ w = w' := by subst hy; exact neg_any x h w
end Go.Proofs.Ytomeidbigofnaaa
