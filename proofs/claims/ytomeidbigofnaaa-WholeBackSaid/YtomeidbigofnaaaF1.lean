/-
  The walks of package float, on: Right, Split, Neg, Abs, Next, Prev, and the document's own.
-/
import Derived.Test.YtomeidbigofnaaaF0
namespace Go.Proofs.Ytomeidbigofnaaa
open Go.RowKit Go.Shelf

theorem kind_vars (x k : Int) (h : Word x) (hk : kindI x = k) (w : World) : Calls Try.prog 25 #[.int .u64 x] w fun e w' => e = .returned (.int .i64 k) ∧ w = w' := by subst hk; exact kind_any x h w
theorem rkind_vars (x k : Int) (h : Word x) (hk : kindI x = k) (w : World) : Calls Try.prog 30 #[.int .u64 x] w fun e w' => e = .returned (.int .i64 k) ∧ w = w' := by subst hk; exact rkind_any x h w
theorem ret_u64 {a b : Int} (h : a = b) : Ending.returned (.int .u64 a) = .returned (.int .u64 b) := by rw [h]

set_option maxHeartbeats 400000 in
theorem right_any (x : Int) (h : Word x) (w : World) : Calls Try.prog 34 #[.int .u64 x] w fun e w' => e = .returned (.int .u64 (rightI x)) ∧ w = w' := by
  have hr := u64_andNot_top x h
  have hk : Hid (rightI x = if 9218868437227405312 < absI x then 9221120237041090560 else x) := by
    unfold Hid rightI kindI
    by_cases c : 9218868437227405312 < absI x
    · rw [if_pos c, if_pos c]; rfl
    · rw [if_neg c, if_neg c, if_neg (by repeat' split <;> omega)]
  generalize rightI x = k at *
  generalize absI x = r at *
  by_cases c1 : 9218868437227405312 < r
  · rw [if_pos c1] at hk
    go_enter Try.func34, Try.ntmps34
    go_wp2
    go_ret
    exact ⟨ret_u64 hk.out.symm, rfl⟩
  · rw [if_neg c1] at hk
    go_enter Try.func34, Try.ntmps34
    go_wp2
    go_ret
    exact ⟨ret_u64 hk.out.symm, rfl⟩
set_option maxHeartbeats 400000 in
theorem neg_any (x : Int) (h : Word x) (w : World) : Calls Try.prog 41 #[.int .u64 x] w fun e w' => e = .returned (.int .u64 (negI x)) ∧ w = w' := by
  obtain ⟨k, hk⟩ : ∃ k, kindI x = k := ⟨_, rfl⟩
  have Hk := Lib.hid (fun w => kind_vars x k h hk w)
  have hr : Hid (negI x = if k = 4 then 9221120237041090560 else turnI x) := by unfold Hid negI; rw [hk]
  have hx := u64_xor_top x h
  clear hk h
  by_cases c : k = 4
  · have e : Hid (negI x = 9221120237041090560) := by rw [hr.out, if_pos c]; rfl
    have hc : (k == 4) = true := by simpa using c
    clear c hr
    go_enter Try.func41, Try.ntmps41
    go_wp2_with (go_at_call 25; refine (Hk.out _).mono ?_; rintro e w' ⟨rfl, rfl⟩)
    go_ret
    exact ⟨ret_u64 e.out.symm, rfl⟩
  · have e : Hid (negI x = turnI x) := by rw [hr.out, if_neg c]; rfl
    have hc : (k == 4) = false := by simpa using c
    clear c hr
    go_enter Try.func41, Try.ntmps41
    go_wp2_with (go_at_call 25; refine (Hk.out _).mono ?_; rintro e w' ⟨rfl, rfl⟩)
    go_ret
    exact ⟨ret_u64 e.out.symm, rfl⟩
theorem right_word (x : Int) (h : Word x) : Word (rightI x) := by
  unfold rightI; split
  · decide
  · exact h
set_option maxHeartbeats 400000 in
theorem abs_any (x : Int) (h : Word x) (w : World) : Calls Try.prog 40 #[.int .u64 x] w fun e w' => e = .returned (.int .u64 (absI (rightI x))) ∧ w = w' := by
  obtain ⟨k, hk⟩ : ∃ k, rightI x = k := ⟨_, rfl⟩
  have Hk : Hid (∀ w, Calls Try.prog 34 #[.int .u64 x] w fun e w' => e = .returned (.int .u64 k) ∧ w = w') := fun w => by rw [← hk]; exact right_any x h w
  have hx := u64_andNot_top k (by rw [← hk]; exact right_word x h)
  rw [hk]
  clear hk h
  go_enter Try.func40, Try.ntmps40
  go_wp2_with (go_at_call 34; refine (Hk.out _).mono ?_; rintro e w' ⟨rfl, rfl⟩)
  go_ret
  exact ⟨rfl, rfl⟩
set_option maxHeartbeats 400000 in
theorem ris_any (x : Int) (w : World) : Calls Try.prog 32 #[.int .u64 x] w fun e w' => e = .returned (.bool (negB x)) ∧ w = w' := by
  go_enter Try.func32, Try.ntmps32
  go_wp2
  go_ret
  exact ⟨rfl, rfl⟩

set_option maxHeartbeats 1000000 in
theorem split_any (x : Int) (h : Word x) (w : World) : Calls Try.prog 39 #[.int .u64 x] w fun e w' => e = .returned (.tuple #[.bool (negB x), .int .u64 (mantI x), .int .i64 (powI x)]) ∧ w = w' := by
  obtain ⟨_, b1, b2, b3, b4⟩ := abs_parts x h
  have he := and_exp x h
  have hf := and_frac x h
  have ho := or_lead x
  have ht := u64_bits_and_top x h
  obtain ⟨s, hs⟩ : ∃ s, (if 9223372036854775808 ≤ x then (9223372036854775808 : Int) else 0) = s := ⟨_, rfl⟩
  rw [hs] at ht
  have hn : (s != 0) = negB x := by
    unfold negB; rw [← hs]; split <;> rename_i c <;> simp [c]
  have hm : Hid (mantI x = if expI x = 2047 then 0 else if expI x = 0 then fracI x else 4503599627370496 + fracI x) := rfl
  have hp : Hid (powI x = if expI x = 2047 then 0 else if expI x = 0 then -1074 else expI x - 1075) := rfl
  generalize negB x = ng at *
  generalize mantI x = m at *
  generalize powI x = q at *
  generalize expI x = p at *
  generalize fracI x = f at *
  have x0 := h.1
  clear h hs
  have fin : Hid (∀ (z1 z2 : Int), z1 = m → z2 = q → Ending.returned (.tuple #[.bool ng, .int .u64 z1, .int .i64 z2]) = .returned (.tuple #[.bool ng, .int .u64 m, .int .i64 q])) := fun z1 z2 e1 e2 => by rw [e1, e2]
  by_cases c1 : p = 2047
  · have hm : Hid (m = 0) := by rw [hm.out, if_pos c1]; rfl
    have hp : Hid (q = 0) := by rw [hp.out, if_pos c1]; rfl
    have c1' : (p == 2047) = true := by simpa using c1
    clear c1 ho
    go_enter Try.func39, Try.ntmps39
    go_wp2
    go_ret3
    exact ⟨fin.out _ _ hm.out.symm hp.out.symm, rfl⟩
  · have c1' : (p == 2047) = false := by simpa using c1
    by_cases c2 : p = 0
    · have hm : Hid (m = f) := by rw [hm.out, if_neg c1, if_pos c2]; rfl
      have hp : Hid (q = -1074) := by rw [hp.out, if_neg c1, if_pos c2]; rfl
      have c2' : (p == 0) = true := by simpa using c2
      clear c1 c2 ho
      go_enter Try.func39, Try.ntmps39
      go_wp2
      go_ret3
      exact ⟨fin.out _ _ hm.out.symm hp.out.symm, rfl⟩
    · have c2' : (p == 0) = false := by simpa using c2
      have hm : Hid (m = 4503599627370496 + f) := by rw [hm.out, if_neg c1, if_neg c2]; rfl
      have hp : Hid (q = p - 1 + -1074) := by rw [hp.out, if_neg c1, if_neg c2]; show p - 1075 = _; omega
      go_enter Try.func39, Try.ntmps39
      go_wp2
      go_ret3
      exact ⟨fin.out _ _ hm.out.symm hp.out.symm, rfl⟩
end Go.Proofs.Ytomeidbigofnaaa
