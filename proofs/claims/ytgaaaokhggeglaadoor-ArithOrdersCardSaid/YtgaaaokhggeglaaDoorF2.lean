/-
  The walks of package float, on: Split of the document, Next and Prev of both.
-/
import Derived.Test.YtgaaaokhggeglaaDoorF1
namespace Go.Proofs.YtgaaaokhggeglaaDoor
open Go.RowKit Go.Shelf

/-- Next, by the order of the tests in the code. -/
theorem next_code (x : Int) (h : Word x) : nextI x = if kindI x = 4 then 9221120237041090560 else if x = 9223372036854775808 then 1 else if x = 9218868437227405312 then x else if 9223372036854775808 < x then x - 1 else x + 1 := by
  unfold nextI absI Word at *
  repeat' split
  all_goals omega
theorem next_ref (x : Int) (h : Word x) : nextI x = if kindI x = 4 then 9221120237041090560 else if kindI x = 0 then 1 else if x = 9218868437227405312 then 9218868437227405312 else if x < 9223372036854775808 then x + 1 else x - 1 := by
  have hk : kindI x = 0 ↔ absI x = 0 := by
    unfold kindI absI at *; repeat' split
    all_goals omega
  by_cases c : kindI x = 4
  · unfold nextI; rw [if_pos c, if_pos c]
  · unfold nextI
    rw [if_neg c, if_neg c]
    by_cases c0 : absI x = 0
    · rw [if_pos c0, if_pos (hk.2 c0)]
    · rw [if_neg c0, if_neg (fun e => c0 (hk.1 e))]
      unfold absI Word at *
      repeat' split
      all_goals omega

theorem neg_word (x : Int) (_h : Word x) : Word (negI x) := by
  unfold negI; split
  · decide
  · unfold turnI Word; omega
theorem next_word (x : Int) (h : Word x) : Word (nextI x) := by
  have := next_code x h
  have hk : x = 18446744073709551615 → kindI x = 4 := by rintro rfl; decide
  unfold Word at *
  rw [this]
  repeat' split
  all_goals omega
theorem neg_vars (x y : Int) (h : Word x) (hy : negI x = y) (w : World) : Calls Tryd.prog 21 #[.int .u64 x] w fun e w' => e = .returned (.int .u64 y) ∧ w = w' := by subst hy; exact neg_any x h w
theorem rneg_vars (x y : Int) (h : Word x) (hy : negI x = y) (w : World) : Calls Tryd.prog 11 #[.int .u64 x] w fun e w' => e = .returned (.int .u64 y) ∧ w = w' := by subst hy; exact rneg_any x h w
end Go.Proofs.YtgaaaokhggeglaaDoor
