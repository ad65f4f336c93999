import Derived.Test.YtnefacnceemklaaDoorX0
/-
  The walks of package float: a number's kind, its parts, its neighbours, its other sign; and the document's own answers to these.
-/
namespace Go.Proofs.YtnefacnceemklaaDoor
open Go.RowKit Go.Shelf

/-! ### What the functions answer, on ints -/
def expI (x : Int) : Int := x / 4503599627370496 % 2048
def fracI (x : Int) : Int := x % 4503599627370496
def absI (x : Int) : Int := x % 9223372036854775808
def kindI (x : Int) : Int := if 9218868437227405312 < absI x then 4 else if absI x = 9218868437227405312 then 3 else if 4503599627370496 ≤ absI x then 2 else if absI x = 0 then 0 else 1
def rightI (x : Int) : Int := if kindI x = 4 then 9221120237041090560 else x
def negB (x : Int) : Bool := decide (9223372036854775808 ≤ x)
def mantI (x : Int) : Int := if expI x = 2047 then 0 else if expI x = 0 then fracI x else 4503599627370496 + fracI x
def powI (x : Int) : Int := if expI x = 2047 then 0 else if expI x = 0 then -1074 else expI x - 1075
def turnI (x : Int) : Int := (x + 9223372036854775808) % 18446744073709551616
def negI (x : Int) : Int := if kindI x = 4 then 9221120237041090560 else turnI x
def nextI (x : Int) : Int := if kindI x = 4 then 9221120237041090560 else if absI x = 0 then 1 else if x = 9218868437227405312 then x else if 9223372036854775808 < x then x - 1 else x + 1
def prevI (x : Int) : Int := negI (nextI (negI x))

theorem u64_bits_and_top (x : Int) (h : Word x) : bits .and .u64 x 9223372036854775808 = if 9223372036854775808 ≤ x then 9223372036854775808 else 0 := by
  obtain ⟨n, rfl⟩ := Int.eq_ofNat_of_zero_le h.1
  have hn : n < 18446744073709551616 := by have := h.2; omega
  have e := u64_and_nat n (2 ^ 63) hn (by decide)
  rw [show (9223372036854775808 : Int) = ((2 ^ 63 : Nat) : Int) from rfl, e, nat_bit 63 n]
  have h2 : n / 2 ^ 63 % 2 * 2 ^ 63 = if 9223372036854775808 ≤ n then 9223372036854775808 else 0 := by
    rw [show (2 : Nat) ^ 63 = 9223372036854775808 from rfl]
    split <;> omega
  rw [h2, show ((2 ^ 63 : Nat) : Int) = 9223372036854775808 from rfl]
  split <;> split <;> first | rfl | omega
theorem and_mask (x : Int) (k : Nat) (hk : 2 ^ k - 1 < 18446744073709551616) (h0 : 0 ≤ x) (h1 : x < 18446744073709551616) : bits .and .u64 x ((2 ^ k - 1 : Nat) : Int) = x % ((2 ^ k : Nat) : Int) := by
  obtain ⟨n, rfl⟩ := Int.eq_ofNat_of_zero_le h0
  rw [u64_and_nat n (2 ^ k - 1) (by omega) hk, Nat.and_two_pow_sub_one_eq_mod]
  rfl
theorem u64_andNot_top (x : Int) (h : Word x) : bits .andNot .u64 x 9223372036854775808 = absI x := by
  obtain ⟨n, rfl⟩ := Int.eq_ofNat_of_zero_le h.1
  have hn : n < 18446744073709551616 := by have := h.2; omega
  have e := u64_andNot_nat n 9223372036854775808 hn (by decide)
  rw [show (9223372036854775808 : Int) = ((9223372036854775808 : Nat) : Int) from rfl, e]
  rw [show (18446744073709551615 - 9223372036854775808 : Nat) = 2 ^ 63 - 1 from rfl, Nat.and_two_pow_sub_one_eq_mod]
  rfl
theorem xor_low (r : Nat) (h : r < 2 ^ 63) : r ^^^ 2 ^ 63 = 2 ^ 63 + r := by
  apply Nat.eq_of_testBit_eq
  intro i
  rw [Nat.testBit_xor]
  rcases Nat.lt_trichotomy i 63 with hi | rfl | hi
  · rw [Nat.testBit_two_pow_add_gt hi, Nat.testBit_two_pow_of_ne (by omega)]; simp
  · rw [Nat.testBit_two_pow_add_eq, Nat.testBit_two_pow_self]; simp
  · have k : 2 ^ 64 ≤ 2 ^ i := Nat.pow_le_pow_right (by decide) (by omega)
    rw [Nat.testBit_lt_two_pow (x := 2 ^ 63 + r) (i := i) (by omega), Nat.testBit_lt_two_pow (x := r) (i := i) (by omega), Nat.testBit_two_pow_of_ne (by omega)]; rfl
theorem xor_top (n : Nat) (h : n < 2 ^ 64) : n ^^^ 2 ^ 63 = (n + 2 ^ 63) % 2 ^ 64 := by
  by_cases hn : n < 2 ^ 63
  · rw [xor_low n hn]; omega
  · obtain ⟨r, hr⟩ : ∃ r, n = 2 ^ 63 + r := ⟨n - 2 ^ 63, by omega⟩
    have e := xor_low r (by omega)
    rw [hr, ← e, Nat.xor_assoc, Nat.xor_self, Nat.xor_zero, e]; omega
theorem u64_xor_top (x : Int) (h : Word x) : bits .xor .u64 x 9223372036854775808 = turnI x := by
  obtain ⟨n, rfl⟩ := Int.eq_ofNat_of_zero_le h.1
  have hn : n < 18446744073709551616 := by have := h.2; omega
  rw [show (9223372036854775808 : Int) = ((2 ^ 63 : Nat) : Int) from rfl, u64_xor_nat n (2 ^ 63) hn (by decide), xor_top n hn]
  rfl

/-- The parts hang together. -/
theorem abs_parts (x : Int) (_h : Word x) : absI x = expI x * 4503599627370496 + fracI x ∧ 0 ≤ expI x ∧ expI x < 2048 ∧ 0 ≤ fracI x ∧ fracI x < 4503599627370496 := by
  unfold absI expI fracI Word at *; omega

theorem and_exp (x : Int) (h : Word x) : bits .and .u64 (x / 4503599627370496) 2047 = expI x := by
  have := and_mask (x / 4503599627370496) 11 (by decide) (by have := h.1; omega) (by have := h.2; omega)
  exact this
theorem and_frac (x : Int) (h : Word x) : bits .and .u64 x 4503599627370495 = fracI x := and_mask x 52 (by decide) h.1 h.2
theorem or_lead (x : Int) : bits .or .u64 4503599627370496 (fracI x) = 4503599627370496 + fracI x := by
  have h0 : 0 ≤ fracI x := by unfold fracI; omega
  have h1 : fracI x < 4503599627370496 := by unfold fracI; omega
  obtain ⟨n, hn⟩ := Int.eq_ofNat_of_zero_le h0
  rw [hn] at h1 ⊢
  rw [show (4503599627370496 : Int) = ((2 ^ 52 : Nat) : Int) from rfl, u64_or_nat (2 ^ 52) n (by decide) (by omega), Plain.nat_join 52 (2 ^ 52) n (by decide) (by have : (2 : Nat) ^ 52 = 4503599627370496 := rfl; omega)]
  rfl

/-! ### Kind -/
set_option maxHeartbeats 400000 in
theorem kind_any (x : Int) (h : Word x) (w : World) : Calls Tryd.prog 34 #[.int .u64 x] w fun e w' => e = .returned (.int .i64 (kindI x)) ∧ w = w' := by
  have hr := u64_andNot_top x h
  have b0 : 0 ≤ absI x := by unfold absI; omega
  have hk : Hid (kindI x = if 9218868437227405312 < absI x then 4 else if absI x = 9218868437227405312 then 3 else if 4503599627370496 ≤ absI x then 2 else if absI x = 0 then 0 else 1) := rfl
  generalize kindI x = k at *
  generalize absI x = r at *
  by_cases c1 : 9218868437227405312 < r
  · have e : Hid (4 = k) := by rw [hk.out, if_pos c1]; rfl
    go_enter Tryd.func34, Tryd.ntmps34
    go_wp2
    go_ret
    exact ⟨congrArg (fun z => Ending.returned (.int .i64 z)) e.out, rfl⟩
  · by_cases c2 : r = 9218868437227405312
    · have e : Hid (3 = k) := by rw [hk.out, if_neg c1, if_pos c2]; rfl
      have hc2 : (r == 9218868437227405312) = true := by simpa using c2
      clear c2
      go_enter Tryd.func34, Tryd.ntmps34
      go_wp2
      go_ret
      exact ⟨congrArg (fun z => Ending.returned (.int .i64 z)) e.out, rfl⟩
    · have hc2 : (r == 9218868437227405312) = false := by simpa using c2
      by_cases c3 : 4503599627370496 ≤ r
      · have e : Hid (2 = k) := by rw [hk.out, if_neg c1, if_neg c2, if_pos c3]; rfl
        go_enter Tryd.func34, Tryd.ntmps34
        go_wp2
        go_ret
        exact ⟨congrArg (fun z => Ending.returned (.int .i64 z)) e.out, rfl⟩
      · by_cases c4 : r = 0
        · have e : Hid (0 = k) := by rw [hk.out, if_neg c1, if_neg c2, if_neg c3, if_pos c4]; rfl
          have hc4 : (r != 0) = false := by simpa using c4
          clear c4
          go_enter Tryd.func34, Tryd.ntmps34
          go_wp2
          go_ret
          exact ⟨congrArg (fun z => Ending.returned (.int .i64 z)) e.out, rfl⟩
        · have e : Hid (1 = k) := by rw [hk.out, if_neg c1, if_neg c2, if_neg c3, if_neg c4]; rfl
          have hc4 : (r != 0) = true := by simpa using c4
          go_enter Tryd.func34, Tryd.ntmps34
          go_wp2
          go_ret
          exact ⟨congrArg (fun z => Ending.returned (.int .i64 z)) e.out, rfl⟩

theorem kind_parts (x : Int) (h : Word x) : kindI x = if expI x = 2047 then (if fracI x = 0 then 3 else 4) else if expI x = 0 then (if fracI x = 0 then 0 else 1) else 2 := by
  obtain ⟨e, a, b, c, d⟩ := abs_parts x h
  unfold kindI
  rw [e]
  generalize expI x = p at *
  generalize fracI x = q at *
  clear e
  repeat' split
  all_goals omega

set_option maxHeartbeats 400000 in
theorem rkind_any (x : Int) (h : Word x) (w : World) : Calls Tryd.prog 25 #[.int .u64 x] w fun e w' => e = .returned (.int .i64 (kindI x)) ∧ w = w' := by
  have hk := Lib.hid (kind_parts x h)
  obtain ⟨x0, x1⟩ := h
  have he : x / 4503599627370496 % 2048 = expI x := rfl
  have hf : x % 4503599627370496 = fracI x := rfl
  generalize kindI x = k at *
  generalize expI x = p at *
  generalize fracI x = q at *
  rcases Bool.eq_false_or_eq_true (p == 2047) with c1 | c1 <;> rcases Bool.eq_false_or_eq_true (q == 0) with c2 | c2 <;> rcases Bool.eq_false_or_eq_true (p == 0) with c3 | c3
  all_goals
    have hk2 : Hid (∀ z : Int, z = (if p == 2047 then (if q == 0 then 3 else 4) else if p == 0 then (if q == 0 then 0 else 1) else 2) → Ending.returned (Value.int .i64 z) = .returned (.int .i64 k)) := by
      intro z hz; rw [hz, hk.out]; simp
    rw [c1, c2, c3] at hk2
  all_goals
    go_enter Tryd.func25, Tryd.ntmps25
    go_wp2
    go_ret
    exact ⟨hk2.out _ rfl, rfl⟩
end Go.Proofs.YtnefacnceemklaaDoor

/-
  The walks of package float, on: Right, Split, Neg, Abs, Next, Prev, and the document's own.
-/
namespace Go.Proofs.YtnefacnceemklaaDoor
open Go.RowKit Go.Shelf

theorem kind_vars (x k : Int) (h : Word x) (hk : kindI x = k) (w : World) : Calls Tryd.prog 34 #[.int .u64 x] w fun e w' => e = .returned (.int .i64 k) ∧ w = w' := by subst hk; exact kind_any x h w
theorem rkind_vars (x k : Int) (h : Word x) (hk : kindI x = k) (w : World) : Calls Tryd.prog 25 #[.int .u64 x] w fun e w' => e = .returned (.int .i64 k) ∧ w = w' := by subst hk; exact rkind_any x h w
theorem ret_u64 {a b : Int} (h : a = b) : Ending.returned (.int .u64 a) = .returned (.int .u64 b) := by rw [h]

set_option maxHeartbeats 400000 in
theorem right_any (x : Int) (h : Word x) (w : World) : Calls Tryd.prog 69 #[.int .u64 x] w fun e w' => e = .returned (.int .u64 (rightI x)) ∧ w = w' := by
  have hr := u64_andNot_top x h
  have hk : Hid (rightI x = if 9218868437227405312 < absI x then 9221120237041090560 else x) := by
    unfold Hid rightI kindI
    by_cases c : 9218868437227405312 < absI x
    · rw [if_pos c, if_pos c]; rfl
    · rw [if_neg c, if_neg c, if_neg (by repeat' split <;> omega)]
  generalize rightI x = k at *
  generalize absI x = r at *
  by_cases c1 : 9218868437227405312 < r
  · rw [if_pos c1] at hk
    go_enter Tryd.func69, Tryd.ntmps69
    go_wp2
    go_ret
    exact ⟨ret_u64 hk.out.symm, rfl⟩
  · rw [if_neg c1] at hk
    go_enter Tryd.func69, Tryd.ntmps69
    go_wp2
    go_ret
    exact ⟨ret_u64 hk.out.symm, rfl⟩
set_option maxHeartbeats 400000 in
theorem rright_any (x : Int) (h : Word x) (w : World) : Calls Tryd.prog 24 #[.int .u64 x] w fun e w' => e = .returned (.int .u64 (rightI x)) ∧ w = w' := by
  obtain ⟨k, hk⟩ : ∃ k, kindI x = k := ⟨_, rfl⟩
  have Hk := Lib.hid (fun w => rkind_vars x k h hk w)
  have hr : Hid (rightI x = if k = 4 then 9221120237041090560 else x) := by unfold Hid rightI; rw [hk]
  clear hk h
  by_cases c : k = 4
  · have e : Hid (rightI x = 9221120237041090560) := by rw [hr.out, if_pos c]; rfl
    have hc : (k == 4) = true := by simpa using c
    clear c hr
    go_enter Tryd.func24, Tryd.ntmps24
    go_wp2_with (go_at_call 25; refine (Hk.out _).mono ?_; rintro e w' ⟨rfl, rfl⟩)
    go_ret
    exact ⟨ret_u64 e.out.symm, rfl⟩
  · have e : Hid (rightI x = x) := by rw [hr.out, if_neg c]; rfl
    have hc : (k == 4) = false := by simpa using c
    clear c hr
    go_enter Tryd.func24, Tryd.ntmps24
    go_wp2_with (go_at_call 25; refine (Hk.out _).mono ?_; rintro e w' ⟨rfl, rfl⟩)
    go_ret
    exact ⟨ret_u64 e.out.symm, rfl⟩
set_option maxHeartbeats 400000 in
theorem neg_any (x : Int) (h : Word x) (w : World) : Calls Tryd.prog 71 #[.int .u64 x] w fun e w' => e = .returned (.int .u64 (negI x)) ∧ w = w' := by
  obtain ⟨k, hk⟩ : ∃ k, kindI x = k := ⟨_, rfl⟩
  have Hk := Lib.hid (fun w => kind_vars x k h hk w)
  have hr : Hid (negI x = if k = 4 then 9221120237041090560 else turnI x) := by unfold Hid negI; rw [hk]
  have hx := u64_xor_top x h
  clear hk h
  by_cases c : k = 4
  · have e : Hid (negI x = 9221120237041090560) := by rw [hr.out, if_pos c]; rfl
    have hc : (k == 4) = true := by simpa using c
    clear c hr
    go_enter Tryd.func71, Tryd.ntmps71
    go_wp2_with (go_at_call 34; refine (Hk.out _).mono ?_; rintro e w' ⟨rfl, rfl⟩)
    go_ret
    exact ⟨ret_u64 e.out.symm, rfl⟩
  · have e : Hid (negI x = turnI x) := by rw [hr.out, if_neg c]; rfl
    have hc : (k == 4) = false := by simpa using c
    clear c hr
    go_enter Tryd.func71, Tryd.ntmps71
    go_wp2_with (go_at_call 34; refine (Hk.out _).mono ?_; rintro e w' ⟨rfl, rfl⟩)
    go_ret
    exact ⟨ret_u64 e.out.symm, rfl⟩
theorem right_word (x : Int) (h : Word x) : Word (rightI x) := by
  unfold rightI; split
  · decide
  · exact h
set_option maxHeartbeats 400000 in
theorem abs_any (x : Int) (h : Word x) (w : World) : Calls Tryd.prog 55 #[.int .u64 x] w fun e w' => e = .returned (.int .u64 (absI (rightI x))) ∧ w = w' := by
  obtain ⟨k, hk⟩ : ∃ k, rightI x = k := ⟨_, rfl⟩
  have Hk : Hid (∀ w, Calls Tryd.prog 69 #[.int .u64 x] w fun e w' => e = .returned (.int .u64 k) ∧ w = w') := fun w => by rw [← hk]; exact right_any x h w
  have hx := u64_andNot_top k (by rw [← hk]; exact right_word x h)
  rw [hk]
  clear hk h
  go_enter Tryd.func55, Tryd.ntmps55
  go_wp2_with (go_at_call 69; refine (Hk.out _).mono ?_; rintro e w' ⟨rfl, rfl⟩)
  go_ret
  exact ⟨rfl, rfl⟩
set_option maxHeartbeats 400000 in
theorem ris_any (x : Int) (w : World) : Calls Tryd.prog 38 #[.int .u64 x] w fun e w' => e = .returned (.bool (negB x)) ∧ w = w' := by
  go_enter Tryd.func38, Tryd.ntmps38
  go_wp2
  go_ret
  exact ⟨rfl, rfl⟩

set_option maxHeartbeats 1000000 in
theorem split_any (x : Int) (h : Word x) (w : World) : Calls Tryd.prog 56 #[.int .u64 x] w fun e w' => e = .returned (.tuple #[.bool (negB x), .int .u64 (mantI x), .int .i64 (powI x)]) ∧ w = w' := by
  obtain ⟨_, b1, b2, b3, b4⟩ := abs_parts x h
  have he := and_exp x h
  have hf := and_frac x h
  have ho := or_lead x
  have ht := u64_bits_and_top x h
  obtain ⟨s, hs⟩ : ∃ s, (if 9223372036854775808 ≤ x then (9223372036854775808 : Int) else 0) = s := ⟨_, rfl⟩
  rw [hs] at ht
  have hn : (s != 0) = negB x := by
    unfold negB; rw [← hs]; split <;> rename_i c <;> simp [c]
  have hm : Hid (mantI x = if expI x = 2047 then 0 else if expI x = 0 then fracI x else 4503599627370496 + fracI x) := rfl
  have hp : Hid (powI x = if expI x = 2047 then 0 else if expI x = 0 then -1074 else expI x - 1075) := rfl
  generalize negB x = ng at *
  generalize mantI x = m at *
  generalize powI x = q at *
  generalize expI x = p at *
  generalize fracI x = f at *
  have x0 := h.1
  clear h hs
  have fin : Hid (∀ (z1 z2 : Int), z1 = m → z2 = q → Ending.returned (.tuple #[.bool ng, .int .u64 z1, .int .i64 z2]) = .returned (.tuple #[.bool ng, .int .u64 m, .int .i64 q])) := fun z1 z2 e1 e2 => by rw [e1, e2]
  by_cases c1 : p = 2047
  · have hm : Hid (m = 0) := by rw [hm.out, if_pos c1]; rfl
    have hp : Hid (q = 0) := by rw [hp.out, if_pos c1]; rfl
    have c1' : (p == 2047) = true := by simpa using c1
    clear c1 ho
    go_enter Tryd.func56, Tryd.ntmps56
    go_wp2
    go_ret3
    exact ⟨fin.out _ _ hm.out.symm hp.out.symm, rfl⟩
  · have c1' : (p == 2047) = false := by simpa using c1
    by_cases c2 : p = 0
    · have hm : Hid (m = f) := by rw [hm.out, if_neg c1, if_pos c2]; rfl
      have hp : Hid (q = -1074) := by rw [hp.out, if_neg c1, if_pos c2]; rfl
      have c2' : (p == 0) = true := by simpa using c2
      clear c1 c2 ho
      go_enter Tryd.func56, Tryd.ntmps56
      go_wp2
      go_ret3
      exact ⟨fin.out _ _ hm.out.symm hp.out.symm, rfl⟩
    · have c2' : (p == 0) = false := by simpa using c2
      have hm : Hid (m = 4503599627370496 + f) := by rw [hm.out, if_neg c1, if_neg c2]; rfl
      have hp : Hid (q = p - 1 + -1074) := by rw [hp.out, if_neg c1, if_neg c2]; show p - 1075 = _; omega
      go_enter Tryd.func56, Tryd.ntmps56
      go_wp2
      go_ret3
      exact ⟨fin.out _ _ hm.out.symm hp.out.symm, rfl⟩
end Go.Proofs.YtnefacnceemklaaDoor

/-
  The walks of package float, on: Split of the document, Next and Prev of both.
-/
namespace Go.Proofs.YtnefacnceemklaaDoor
open Go.RowKit Go.Shelf

set_option maxHeartbeats 1000000 in
theorem rsplit_any (x : Int) (h : Word x) (w : World) : Calls Tryd.prog 28 #[.int .u64 x] w fun e w' => e = .returned (.tuple #[.bool (negB x), .int .u64 (mantI x), .int .i64 (powI x)]) ∧ w = w' := by
  obtain ⟨_, b1, b2, b3, b4⟩ := abs_parts x h
  have hkp := kind_parts x h
  have he : x / 4503599627370496 % 2048 = expI x := rfl
  have hf : x % 4503599627370496 = fracI x := rfl
  obtain ⟨k, hk⟩ : ∃ k, kindI x = k := ⟨_, rfl⟩
  have Hk := Lib.hid (fun w => rkind_vars x k h hk w)
  rw [hk] at hkp
  have hm : Hid (mantI x = if expI x = 2047 then 0 else if expI x = 0 then fracI x else 4503599627370496 + fracI x) := rfl
  have hp : Hid (powI x = if expI x = 2047 then 0 else if expI x = 0 then -1074 else expI x - 1075) := rfl
  have Hs : Hid (∀ w, Calls Tryd.prog 38 #[.int .u64 x] w fun e w' => e = .returned (.bool (negB x)) ∧ w = w') := fun w => ris_any x w
  generalize negB x = ng at *
  generalize mantI x = m at *
  generalize powI x = q at *
  generalize expI x = p at *
  generalize fracI x = f at *
  have x0 := h.1
  have x1 := h.2
  clear h hk
  have fin : Hid (∀ (z1 z2 : Int), z1 = m → z2 = q → Ending.returned (.tuple #[.bool ng, .int .u64 z1, .int .i64 z2]) = .returned (.tuple #[.bool ng, .int .u64 m, .int .i64 q])) := fun z1 z2 e1 e2 => by rw [e1, e2]
  by_cases c1 : p = 2047
  · have hm : Hid (m = 0) := by rw [hm.out, if_pos c1]; rfl
    have hp : Hid (q = 0) := by rw [hp.out, if_pos c1]; rfl
    have k0 : (k == 0) = false := by rw [hkp, if_pos c1]; split <;> rfl
    have k1 : (k == 1) = false := by rw [hkp, if_pos c1]; split <;> rfl
    have k2 : (k == 2) = false := by rw [hkp, if_pos c1]; split <;> rfl
    clear c1 hkp he hf
    go_enter Tryd.func28, Tryd.ntmps28
    go_wp2_with (first | (go_at_call 25; refine (Hk.out _).mono ?_; rintro e w' ⟨rfl, rfl⟩) | (go_at_call 38; refine (Hs.out _).mono ?_; rintro e w' ⟨rfl, rfl⟩))
    go_ret3
    exact ⟨fin.out _ _ hm.out.symm hp.out.symm, rfl⟩
  · by_cases c2 : p = 0
    · have hm : Hid (m = f) := by rw [hm.out, if_neg c1, if_pos c2]; rfl
      have hp : Hid (q = -1074) := by rw [hp.out, if_neg c1, if_pos c2]; rfl
      rw [if_neg c1, if_pos c2] at hkp
      by_cases c3 : f = 0
      · have k0 : (k == 0) = true := by rw [hkp, if_pos c3]; rfl
        clear c1 c2 c3 hkp he
        go_enter Tryd.func28, Tryd.ntmps28
        go_wp2_with (first | (go_at_call 25; refine (Hk.out _).mono ?_; rintro e w' ⟨rfl, rfl⟩) | (go_at_call 38; refine (Hs.out _).mono ?_; rintro e w' ⟨rfl, rfl⟩))
        go_ret3
        exact ⟨fin.out _ _ (hf.trans hm.out.symm) hp.out.symm, rfl⟩
      · have k0 : (k == 0) = false := by rw [hkp, if_neg c3]; rfl
        have k1 : (k == 1) = true := by rw [hkp, if_neg c3]; rfl
        clear c1 c2 c3 hkp he
        go_enter Tryd.func28, Tryd.ntmps28
        go_wp2_with (first | (go_at_call 25; refine (Hk.out _).mono ?_; rintro e w' ⟨rfl, rfl⟩) | (go_at_call 38; refine (Hs.out _).mono ?_; rintro e w' ⟨rfl, rfl⟩))
        go_ret3
        exact ⟨fin.out _ _ (hf.trans hm.out.symm) hp.out.symm, rfl⟩
    · have hm : Hid (m = 4503599627370496 + f) := by rw [hm.out, if_neg c1, if_neg c2]; rfl
      have hp : Hid (q = p - 1075) := by rw [hp.out, if_neg c1, if_neg c2]; rfl
      rw [if_neg c1, if_neg c2] at hkp
      have k0 : (k == 0) = false := by rw [hkp]; rfl
      have k1 : (k == 1) = false := by rw [hkp]; rfl
      have k2 : (k == 2) = true := by rw [hkp]; rfl
      clear c1 c2 hkp
      go_enter Tryd.func28, Tryd.ntmps28
      go_wp2_with (first | (go_at_call 25; refine (Hk.out _).mono ?_; rintro e w' ⟨rfl, rfl⟩) | (go_at_call 38; refine (Hs.out _).mono ?_; rintro e w' ⟨rfl, rfl⟩))
      go_ret3
      exact ⟨fin.out _ _ hm.out.symm hp.out.symm, rfl⟩

/-- Next, by the order of the tests in the code. -/
theorem next_code (x : Int) (h : Word x) : nextI x = if kindI x = 4 then 9221120237041090560 else if x = 9223372036854775808 then 1 else if x = 9218868437227405312 then x else if 9223372036854775808 < x then x - 1 else x + 1 := by
  unfold nextI absI Word at *
  repeat' split
  all_goals omega
theorem next_ref (x : Int) (h : Word x) : nextI x = if kindI x = 4 then 9221120237041090560 else if kindI x = 0 then 1 else if x = 9218868437227405312 then 9218868437227405312 else if x < 9223372036854775808 then x + 1 else x - 1 := by
  have hk : kindI x = 0 ↔ absI x = 0 := by
    unfold kindI absI at *; repeat' split
    all_goals omega
  by_cases c : kindI x = 4
  · unfold nextI; rw [if_pos c, if_pos c]
  · unfold nextI
    rw [if_neg c, if_neg c]
    by_cases c0 : absI x = 0
    · rw [if_pos c0, if_pos (hk.2 c0)]
    · rw [if_neg c0, if_neg (fun e => c0 (hk.1 e))]
      unfold absI Word at *
      repeat' split
      all_goals omega

theorem neg_word (x : Int) (_h : Word x) : Word (negI x) := by
  unfold negI; split
  · decide
  · unfold turnI Word; omega
theorem next_word (x : Int) (h : Word x) : Word (nextI x) := by
  have := next_code x h
  have hk : x = 18446744073709551615 → kindI x = 4 := by rintro rfl; decide
  unfold Word at *
  rw [this]
  repeat' split
  all_goals omega
theorem neg_vars (x y : Int) (h : Word x) (hy : negI x = y) (w : World) : Calls Tryd.prog 71 #[.int .u64 x] w fun e w' => e = .returned (.int .u64 y) ∧ w = w' := by subst hy; exact neg_any x h w
end Go.Proofs.YtnefacnceemklaaDoor

/-
  The walks of package float, on: packed, nearest, Join.
-/
namespace Go.Proofs.YtnefacnceemklaaDoor
open Go.RowKit Go.Shelf

/-! ### The closure that tells the lowest bits -/
theorem mask_var (m n : Int) (h : Word m) (hn : 0 ≤ n) : bits .and .u64 m (IntKind.u64.wrap (IntKind.u64.wrap (2 ^ min n.toNat 64) - 1)) = m % pw n := by
  obtain ⟨k, rfl⟩ := Int.eq_ofNat_of_zero_le h.1
  have hk : k < 18446744073709551616 := by have := h.2; omega
  obtain ⟨j, rfl⟩ := Int.eq_ofNat_of_zero_le hn
  have ep : pw (j : Int) = ((2 ^ j : Nat) : Int) := rfl
  rw [Int.toNat_natCast, ep]
  by_cases hj : j < 64
  · have e2 : 2 ^ j < 18446744073709551616 := by
      have := Nat.pow_lt_pow_right (a := 2) (by decide) hj
      exact this
    have e0 : 0 < 2 ^ j := Nat.two_pow_pos j
    have e1 : IntKind.u64.wrap (IntKind.u64.wrap (2 ^ min j 64) - 1) = ((2 ^ j - 1 : Nat) : Int) := by
      have e : (2 : Int) ^ j = ((2 ^ j : Nat) : Int) := (Int.natCast_pow 2 j).symm
      rw [Nat.min_eq_left (by omega), e, IntKind.wrap_u64, IntKind.wrap_u64]
      generalize 2 ^ j = q at *
      omega
    rw [e1]
    exact and_mask k j (by omega) (by omega) (by omega)
  · have e1 : IntKind.u64.wrap (IntKind.u64.wrap (2 ^ min j 64) - 1) = ((2 ^ 64 - 1 : Nat) : Int) := by
      rw [Nat.min_eq_right (by omega)]; decide
    rw [e1, and_mask k 64 (by decide) (by omega) (by omega)]
    have e2 : 2 ^ 64 ≤ 2 ^ j := Nat.pow_le_pow_right (by decide) (by omega)
    have e3 : (2 : Nat) ^ 64 = 18446744073709551616 := rfl
    rw [Int.emod_eq_of_lt (by omega) (by rw [e3]; omega), Int.emod_eq_of_lt (by omega) (by generalize 2 ^ j = q at *; omega)]

set_option maxHeartbeats 400000 in
theorem low_bits (n m : Int) (a : Addr) (h : Word m) (hn : 0 ≤ n) (w : World) (hc : w.cell? a = some (.int .u64 m)) :
    Calls Tryd.prog 116 #[.int .i64 n, .pointer (some a)] w fun e w' => e = .returned (.int .u64 (m % pw n)) ∧ ∃ k, w' = w.drewN k := by
  have hm := mask_var m n h hn
  generalize m % pw n = t at *
  clear h
  go_enter Tryd.func116, Tryd.ntmps116
  go_wp2
  go_quiet (fail)
  go_wp2
  go_ret
  exact ⟨rfl, _, rfl⟩

/-! ### packed -/
theorem shr_var64 (m n : Int) (h : Word m) (hn : 0 ≤ n) : m / 2 ^ min n.toNat 64 = m / pw n := by
  obtain ⟨j, rfl⟩ := Int.eq_ofNat_of_zero_le hn
  have ep : pw (j : Int) = ((2 ^ j : Nat) : Int) := rfl
  have e : ∀ i : Nat, (2 : Int) ^ i = ((2 ^ i : Nat) : Int) := fun i => (Int.natCast_pow 2 i).symm
  rw [Int.toNat_natCast, ep, e]
  by_cases hj : j ≤ 64
  · rw [Nat.min_eq_left hj]
  · rw [Nat.min_eq_right (by omega)]
    have e2 : 2 ^ 64 ≤ 2 ^ j := Nat.pow_le_pow_right (by decide) (by omega)
    have e3 : (2 : Nat) ^ 64 = 18446744073709551616 := rfl
    rw [Int.ediv_eq_zero_of_lt h.1 (by have := h.2; rw [e3]; omega), Int.ediv_eq_zero_of_lt h.1 (by have := h.2; generalize 2 ^ j = q at *; omega)]
theorem and_one (x : Int) (h0 : 0 ≤ x) (h1 : x < 18446744073709551616) : bits .and .u64 x 1 = x % 2 := and_mask x 1 (by decide) h0 h1

/-- What is kept of m behind the cut, rounded. -/
def roundI (m cut : Int) (more : Bool) : Int :=
  if ((m % pw cut != m % pw (cut - 1)) && (more || (m % pw (cut - 1) != 0) || (m / pw cut % 2 != 0))) then m / pw cut + 1 else m / pw cut
def packI (m cut : Int) (more : Bool) : Int := if cut ≤ 0 then IntKind.u64.wrap (m * 2 ^ min (-cut).toNat 64) else roundI m cut more
/-- What packed answers. -/
def WordPost (v : Int) (w : World) (e : Ending) (w' : World) : Prop := e = .returned (.int .u64 v) ∧ Below w.heap.size w w'

set_option maxHeartbeats 4000000 in
theorem packed_any (m cut : Int) (more : Bool) (h : Word m) (hc1 : -9223372036854775807 ≤ cut) (hc2 : cut ≤ 9223372036854775807) (w : World) :
    Calls Tryd.prog 104 #[.int .u64 m, .int .i64 cut, .bool more] w (WordPost (packI m cut more) w) := by
  by_cases c0 : cut ≤ 0
  · have e : Hid (IntKind.u64.wrap (m * 2 ^ min (-cut).toNat 64) = packI m cut more) := by unfold Hid packI; rw [if_pos c0]
    have n1 : 0 ≤ -cut := by omega
    go_enter Tryd.func104, Tryd.ntmps104
    go_wp2
    go_ret
    exact ⟨ret_u64 e.out, (Below.refl _ _).alloc (Nat.le_refl _) _⟩
  · have hk := shr_var64 m cut h (by omega)
    obtain ⟨kp, hkp⟩ : ∃ z, m / pw cut = z := ⟨_, rfl⟩
    rw [hkp] at hk
    have kp0 : 0 ≤ kp := by rw [← hkp]; exact Int.ediv_nonneg h.1 (Int.le_of_lt (pw_pos _))
    have kp1 : kp < 9223372036854775808 := by
      rw [← hkp]
      refine Int.ediv_lt_of_lt_mul (pw_pos _) ?_
      have : pw cut = pw (cut - 1) * 2 := by
        have := pw_add (cut - 1) 1 (by omega) (by decide)
        rw [show cut - 1 + 1 = cut by omega, show pw 1 = 2 from rfl] at this; exact this
      have p := pw_pos (cut - 1)
      have := h.2
      omega
    have ha := and_one kp kp0 (by omega)
    obtain ⟨t1, ht1⟩ : ∃ z, m % pw cut = z := ⟨_, rfl⟩
    obtain ⟨t2, ht2⟩ : ∃ z, m % pw (cut - 1) = z := ⟨_, rfl⟩
    have L1 : Hid (∀ (a : Addr) (w : World), w.cell? a = some (.int .u64 m) → Calls Tryd.prog 116 #[.int .i64 cut, .pointer (some a)] w fun e w' => e = .returned (.int .u64 t1) ∧ ∃ k, w' = w.drewN k) := fun a w hc => by
      rw [← ht1]; exact low_bits cut m a h (by omega) w hc
    have L2 : Hid (∀ (a : Addr) (w : World), w.cell? a = some (.int .u64 m) → Calls Tryd.prog 116 #[.int .i64 (cut - 1), .pointer (some a)] w fun e w' => e = .returned (.int .u64 t2) ∧ ∃ k, w' = w.drewN k) := fun a w hc => by
      rw [← ht2]; exact low_bits (cut - 1) m a h (by omega) w hc
    have e : Hid (∀ z, z = (if ((t1 != t2) && (more || (t2 != 0) || (kp % 2 != 0))) then kp + 1 else kp) → Ending.returned (Value.int .u64 z) = .returned (.int .u64 (packI m cut more))) := fun z hz => by
      rw [hz]; unfold packI roundI; rw [if_neg c0, ht1, ht2, hkp]
    clear hkp ht1 ht2 h
    have cp : 0 ≤ cut := by omega
    have kp2 : 0 ≤ kp % 2 := by omega
    have key : ∀ z : Int, Hid (Ending.returned (Value.int .u64 z) = .returned (.int .u64 (packI m cut more))) → ∀ w' : World, Below w.heap.size w w' → WordPost (packI m cut more) w (.returned (.int .u64 z)) w' := fun z hz w' hb => ⟨hz.out, hb⟩
    have Key := Lib.hid key; clear key
    rcases Bool.eq_false_or_eq_true (t1 != t2) with k1 | k1
    · cases more
      · rcases Bool.eq_false_or_eq_true (t2 != 0) with k2 | k2
        · have hz := Lib.hid (e.out (kp + 1) (by rw [k1, k2]; rfl)); clear e
          go_enter Tryd.func104, Tryd.ntmps104
          go_wp2_with fail
          refine (L1.out _ _ ?_).mono ?_
          · simp [go_sem]
          rintro e1 w1 ⟨rfl, j1, rfl⟩
          go_wp2_with fail
          refine (L2.out _ _ ?_).mono ?_
          · simp [go_sem]
          rintro e2 w2 ⟨rfl, j2, rfl⟩
          go_wp2_with fail
          refine (L2.out _ _ ?_).mono ?_
          · simp [go_sem]
          rintro e2 w2 ⟨rfl, j3, rfl⟩
          go_wp2_with fail
          go_ret
          refine Key.out _ hz _ ?_
          repeat (first | exact (Below.refl _ _).alloc (Nat.le_refl _) _ | refine below_drewN ?_ _)
        · rcases Bool.eq_false_or_eq_true (kp % 2 != 0) with k3 | k3
          · have hz := Lib.hid (e.out (kp + 1) (by rw [k1, k2, k3]; rfl)); clear e
            go_enter Tryd.func104, Tryd.ntmps104
            go_wp2_with fail
            refine (L1.out _ _ ?_).mono ?_
            · simp [go_sem]
            rintro e1 w1 ⟨rfl, j1, rfl⟩
            go_wp2_with fail
            refine (L2.out _ _ ?_).mono ?_
            · simp [go_sem]
            rintro e2 w2 ⟨rfl, j2, rfl⟩
            go_wp2_with fail
            refine (L2.out _ _ ?_).mono ?_
            · simp [go_sem]
            rintro e2 w2 ⟨rfl, j3, rfl⟩
            go_wp2_with fail
            go_ret
            refine Key.out _ hz _ ?_
            repeat (first | exact (Below.refl _ _).alloc (Nat.le_refl _) _ | refine below_drewN ?_ _)
          · have hz := Lib.hid (e.out kp (by rw [k1, k2, k3]; rfl)); clear e
            go_enter Tryd.func104, Tryd.ntmps104
            go_wp2_with fail
            refine (L1.out _ _ ?_).mono ?_
            · simp [go_sem]
            rintro e1 w1 ⟨rfl, j1, rfl⟩
            go_wp2_with fail
            refine (L2.out _ _ ?_).mono ?_
            · simp [go_sem]
            rintro e2 w2 ⟨rfl, j2, rfl⟩
            go_wp2_with fail
            refine (L2.out _ _ ?_).mono ?_
            · simp [go_sem]
            rintro e2 w2 ⟨rfl, j3, rfl⟩
            go_wp2_with fail
            go_ret
            refine Key.out _ hz _ ?_
            repeat (first | exact (Below.refl _ _).alloc (Nat.le_refl _) _ | refine below_drewN ?_ _)
      · have hz := Lib.hid (e.out (kp + 1) (by rw [k1]; rfl)); clear e
        go_enter Tryd.func104, Tryd.ntmps104
        go_wp2_with fail
        refine (L1.out _ _ ?_).mono ?_
        · simp [go_sem]
        rintro e1 w1 ⟨rfl, j1, rfl⟩
        go_wp2_with fail
        refine (L2.out _ _ ?_).mono ?_
        · simp [go_sem]
        rintro e2 w2 ⟨rfl, j2, rfl⟩
        go_wp2_with fail
        go_ret
        refine Key.out _ hz _ ?_
        repeat (first | exact (Below.refl _ _).alloc (Nat.le_refl _) _ | refine below_drewN ?_ _)
    · have hz := Lib.hid (e.out kp (by rw [k1]; rfl)); clear e
      go_enter Tryd.func104, Tryd.ntmps104
      go_wp2_with fail
      refine (L1.out _ _ ?_).mono ?_
      · simp [go_sem]
      rintro e1 w1 ⟨rfl, j1, rfl⟩
      go_wp2_with fail
      refine (L2.out _ _ ?_).mono ?_
      · simp [go_sem]
      rintro e2 w2 ⟨rfl, j2, rfl⟩
      go_wp2_with fail
      go_ret
      refine Key.out _ hz _ ?_
      repeat (first | exact (Below.refl _ _).alloc (Nat.le_refl _) _ | refine below_drewN ?_ _)
end Go.Proofs.YtnefacnceemklaaDoor

/-
  The walks of package float, on: nearest, Join.
-/
namespace Go.Proofs.YtnefacnceemklaaDoor
open Go.RowKit Go.Shelf

def signI (neg : Bool) : Int := if neg then 9223372036854775808 else 0
/-- The place of the lowest bit that is kept. -/
def lastI (E size : Int) : Int := max (E + size - 52 - 1) (-1074)
def nearI (neg : Bool) (m over e size : Int) (more : Bool) : Int :=
  if m = 0 ∨ e < -2148 - over - size then signI neg
  else if 1024 < e ∨ 1024 < over + e + size then signI neg + 9218868437227405312
  else signI neg + (packI m (lastI (e + over) size - (e + over)) more + (lastI (e + over) size + 1074) * 4503599627370496)

theorem pow_lt {a b : Int} (h0 : 0 ≤ a) (h : a ≤ b) : pw a ≤ pw b := by
  have := pw_add a (b - a) h0 (by omega)
  rw [show a + (b - a) = b by omega] at this
  have k := Int.mul_le_mul_of_nonneg_left (show 1 ≤ pw (b - a) by have := pw_pos (b - a); omega) (Int.le_of_lt (pw_pos a))
  rw [Int.mul_one] at k; omega
theorem pack_bd (m cut size : Int) (more : Bool) (h0 : 0 ≤ m) (h1 : m < pw size) (hs : 0 ≤ size) (hc : size - 53 ≤ cut) : 0 ≤ packI m cut more ∧ packI m cut more ≤ 9007199254740992 := by
  have e53 : pw 53 = 9007199254740992 := rfl
  unfold packI
  by_cases c : cut ≤ 0
  · rw [if_pos c, Nat.min_eq_left (by omega), pw_eq]
    have k1 : m * pw (-cut) < pw 53 := by
      have a := Int.mul_lt_mul_of_pos_right h1 (pw_pos (-cut))
      rw [← pw_add _ _ hs (by omega)] at a
      have b := pow_lt (show 0 ≤ size + -cut by omega) (show size + -cut ≤ 53 by omega)
      omega
    have k0 : 0 ≤ m * pw (-cut) := Int.mul_nonneg h0 (Int.le_of_lt (pw_pos _))
    rw [IntKind.wrap_u64, Int.emod_eq_of_lt k0 (by omega)]
    omega
  · rw [if_neg c]
    have k0 : 0 ≤ m / pw cut := Int.ediv_nonneg h0 (Int.le_of_lt (pw_pos _))
    have k1 : m / pw cut < 9007199254740992 := by
      refine Int.ediv_lt_of_lt_mul (pw_pos _) ?_
      have b := pow_lt hs (show size ≤ 53 + cut by omega)
      rw [pw_add 53 cut (by decide) (by omega), e53] at b
      omega
    unfold roundI
    split <;> omega

theorem or_sign (neg : Bool) (v : Int) (h0 : 0 ≤ v) (h1 : v < 9223372036854775808) : bits .or .u64 (signI neg) v = signI neg + v := by
  obtain ⟨n, rfl⟩ := Int.eq_ofNat_of_zero_le h0
  cases neg
  · have := u64_or_nat 0 n (by decide) (by omega)
    simp only [Nat.zero_or] at this
    show bits .or .u64 0 (n : Int) = 0 + (n : Int)
    rw [Int.zero_add]; exact this
  · show bits .or .u64 9223372036854775808 (n : Int) = 9223372036854775808 + (n : Int)
    rw [show (9223372036854775808 : Int) = ((2 ^ 63 : Nat) : Int) from rfl, u64_or_nat (2 ^ 63) n (by decide) (by omega), Plain.nat_join 63 (2 ^ 63) n (by decide) (by have : (2 : Nat) ^ 63 = 9223372036854775808 := rfl; omega)]
    rfl

set_option maxHeartbeats 1000000 in
theorem nearest_any (neg : Bool) (m over e size : Int) (more : Bool) (h : Word m) (ho0 : 0 ≤ over) (ho1 : over ≤ 1000000) (he0 : -9223372036854775808 ≤ e) (he1 : e ≤ 9223372036854775807) (hs : (Lib.bitLen m.toNat : Int) = size) (w : World) :
    Calls Tryd.prog 76 #[.bool neg, .int .u64 m, .int .i64 over, .int .i64 e, .bool more] w (WordPost (nearI neg m over e size more) w) := by
  have hl : Hid (∀ w, Calls Tryd.prog 72 #[.int .u64 m] w fun e w' => e = .returned (.int .i64 size) ∧ w = w') := fun w => by
    rw [← hs]; exact (Tryd.bits_Len64 m w h.1 (by have := h.2; omega)).mono fun _ _ h => ⟨h.1, h.2.symm⟩
  obtain ⟨s1, s2, s3⟩ := bitLen_bd m.toNat (by have := h.1; have := h.2; omega)
  have z0 : 0 ≤ size := by omega
  have z1 : size ≤ 64 := by omega
  have hm1 : Hid (m < pw size) := by
    unfold Hid; rw [← hs]; have := h.1; show m < ((2 ^ Lib.bitLen m.toNat : Nat) : Int); omega
  have H := Lib.hid h
  clear s1 s2 s3 hs h
  by_cases c1 : m = 0 ∨ e < -2148 - over - size
  · have E : Hid (signI neg = nearI neg m over e size more) := by unfold Hid nearI; rw [if_pos c1]
    rcases c1 with c1 | c1
    · have c1' : (m == 0) = true := by simpa using c1
      clear c1
      cases neg
      all_goals
        go_enter Tryd.func76, Tryd.ntmps76
        go_wp2_with (go_at_call 72; refine (hl.out _).mono ?_; rintro e w' ⟨rfl, rfl⟩)
        go_ret
        exact ⟨ret_u64 E.out, Below.refl _ _⟩
    · rcases Bool.eq_false_or_eq_true (m == 0) with c2 | c2 <;> cases neg
      all_goals
        go_enter Tryd.func76, Tryd.ntmps76
        go_wp2_with (go_at_call 72; refine (hl.out _).mono ?_; rintro e w' ⟨rfl, rfl⟩)
        go_ret
        exact ⟨ret_u64 E.out, Below.refl _ _⟩
  · have c2 : (m == 0) = false := by simp; omega
    have c3 : -2148 - over - size ≤ e := by omega
    by_cases c4 : 1024 < e ∨ 1024 < over + e + size
    · have E : Hid (signI neg + 9218868437227405312 = nearI neg m over e size more) := by unfold Hid nearI; rw [if_neg c1, if_pos c4]
      have ho := or_sign neg 9218868437227405312 (by decide) (by decide)
      clear c1
      rcases c4 with c4 | c4
      · cases neg
        all_goals
          simp only [signI] at ho
          go_enter Tryd.func76, Tryd.ntmps76
          go_wp2_with (go_at_call 72; refine (hl.out _).mono ?_; rintro e w' ⟨rfl, rfl⟩)
          go_ret
          exact ⟨ret_u64 E.out, Below.refl _ _⟩
      · by_cases c5 : 1024 < e <;> cases neg
        all_goals
          simp only [signI] at ho
          go_enter Tryd.func76, Tryd.ntmps76
          go_wp2_with (go_at_call 72; refine (hl.out _).mono ?_; rintro e w' ⟨rfl, rfl⟩)
          go_ret
          exact ⟨ret_u64 E.out, Below.refl _ _⟩
    · have c5 : e ≤ 1024 := by omega
      have c6 : over + e + size ≤ 1024 := by omega
      obtain ⟨L, hL⟩ : ∃ L, max (e + over + size - 52 - 1) (-1074) = L := ⟨_, rfl⟩
      have l0 : -1074 ≤ L := by omega
      have l1 : L ≤ 971 := by omega
      have l2 : Hid (size - 53 ≤ L - (e + over)) := by unfold Hid; omega
      obtain ⟨P, hP⟩ : ∃ P, packI m (L - (e + over)) more = P := ⟨_, rfl⟩
      have hpb := pack_bd m (L - (e + over)) size more H.out.1 hm1.out z0 l2.out
      have hpk : Hid (∀ w, Calls Tryd.prog 104 #[.int .u64 m, .int .i64 (L - (e + over)), .bool more] w (WordPost P w)) := fun w => by
        rw [← hP]; exact packed_any m _ more H.out (by omega) (by omega) w
      rw [hP] at hpb
      obtain ⟨p0, p1⟩ := hpb
      have E : Hid (signI neg + (P + (L + 1074) * 4503599627370496) = nearI neg m over e size more) := by
        unfold Hid nearI lastI; rw [if_neg c1, if_neg c4, hL, hP]
      have HO := Lib.hid (or_sign neg (P + (L + 1074) * 4503599627370496) (by omega) (by omega))
      clear hP c1 c4 l2
      cases neg
      all_goals
        go_enter Tryd.func76, Tryd.ntmps76
        go_wp2_with (first | (go_at_call 72; refine (hl.out _).mono ?_; rintro e w' ⟨rfl, rfl⟩) | (go_at_call 104; refine (hpk.out _).mono ?_; rintro e w' ⟨rfl, hb⟩))
        go_ret
        exact ⟨ret_u64 (HO.out.trans E.out), hb⟩

/-! ### Join -/
/-- What Join answers: v is the number of 128 bits. -/
def joinI (neg : Bool) (over top size : Int) (lost : Bool) (e : Int) (more : Bool) : Int := nearI neg top over e size (more || lost)
/-- The top 64 bits of a number of n bits, and whether anything was left. -/
def JoinPost (neg : Bool) (v e : Int) (more : Bool) (w : World) (en : Ending) (w' : World) : Prop :=
  ∃ (n : Nat) (over top size : Int) (lost : Bool), n ≤ 128 ∧ v < (2 ^ n : Nat) ∧ (v ≠ 0 → ((2 ^ n : Nat) : Int) ≤ 2 * v) ∧ over = max ((n : Int) - 64) 0 ∧ top = v / pw over ∧ (lost = false ↔ v % pw over = 0) ∧ size = (Lib.bitLen top.toNat : Int) ∧
    en = .returned (.int .u64 (nearI neg top over e size (more || lost))) ∧ Below w.heap.size w w'

set_option maxHeartbeats 2000000 in
theorem join_any (neg : Bool) (h l e : Int) (more : Bool) (h1 : Word h) (h2 : Word l) (he0 : -9223372036854775808 ≤ e) (he1 : e ≤ 9223372036854775807) (w : World) :
    Calls Tryd.prog 37 #[.bool neg, .agg #[.int .u64 h, .int .u64 l], .int .i64 e, .bool more] w (JoinPost neg (val h l) e more w) := by
  have hv := val_bd h1 h2
  have H1 := Lib.hid h1; have H2 := Lib.hid h2; clear h1 h2
  go_enter Tryd.func37, Tryd.ntmps37
  go_wp2_with fail
  refine (len_any h l H1.out H2.out _).mono ?_
  rintro en w1 ⟨n, rfl, hn, hlt, hge, hb1⟩
  obtain ⟨over, hov⟩ : ∃ z, max ((n : Int) - 64) 0 = z := ⟨_, rfl⟩
  have o0 : 0 ≤ over := by omega
  have o1 : over ≤ 64 := by omega
  have z1 := hb1.size; simp at z1
  have c10 : w1.cell? ⟨w.heap.size, 0, none⟩ = some (.int .u64 h) := by rw [(bcell hb1).1 _ _ (by simp)]; simp [go_sem]
  have c11 : w1.cell? ⟨w.heap.size, 1, none⟩ = some (.int .u64 l) := by rw [(bcell hb1).1 _ _ (by simp)]; simp [go_sem]
  have HB1 : Hid (Below w.heap.size w w1) := ((Below.refl _ _).alloc (Nat.le_refl _) _).trans (hb1.mono (by simp))
  have HV := Lib.hid hv; have HL := Lib.hid hlt; have HG := Lib.hid hge
  clear hb1 hv hlt hge
  go_wp2_with fail
  refine (shr_any h l over H1.out H2.out (by omega) _).mono ?_
  rintro en w2 ⟨x, y, lost, rfl, hx, hy, hxy, hlost, hb2⟩
  have z2 := hb2.size
  have HB2 : Hid (Below w.heap.size w w2) := HB1.out.trans (hb2.mono (by omega))
  have HO := Lib.hid hov
  have htop : x = 0 ∧ y = val h l / pw over := by
    have hlt := HL.out
    have hp := pw_pos over
    have e1 : val h l / pw over < 18446744073709551616 := by
      refine Int.ediv_lt_of_lt_mul hp ?_
      have e2 : ((2 ^ n : Nat) : Int) = pw (n : Int) := rfl
      rw [e2] at hlt
      have := pow_lt (show 0 ≤ (n : Int) by omega) (show (n : Int) ≤ 64 + over by omega)
      rw [pw_add 64 over (by decide) o0, pw_64] at this
      omega
    rw [← hxy] at e1 ⊢
    unfold Word val at *; omega
  obtain ⟨rfl, htop⟩ := htop
  have HN := Lib.hid (fun (m : Bool) (w : World) => nearest_any neg y over e _ m hy o0 (by omega) he0 he1 rfl w)
  have HF : Hid (∀ w3, Below w.heap.size w w3 → JoinPost neg (val h l) e more w (.returned (.int .u64 (nearI neg y over e (Lib.bitLen y.toNat) (more || lost)))) w3) := fun w3 hb =>
    ⟨n, over, y, _, lost, hn, HL.out, HG.out, HO.out.symm, htop, hlost, rfl, rfl, hb⟩
  clear hxy hx hy hb2 htop hlost hov
  cases more <;> cases lost
  all_goals
    go_wp2_with (go_at_call 76; refine (HN.out _ _).mono ?_; rintro en w3 ⟨rfl, hb3⟩)
    go_ret
    exact HF.out _ ((HB2.out.alloc (by omega) _).trans (hb3.mono (by simp; omega)))
end Go.Proofs.YtnefacnceemklaaDoor

/-
  The head of chapter 3's statements: the chapter's examples come out as it tells them.
-/
namespace Go.Proofs.YtnefacnceemklaaDoor
open Go.RowKit Go.Shelf

theorem len_unique {v : Int} {n m : Nat} (h1 : v < (2 ^ n : Nat)) (h2 : ((2 ^ n : Nat) : Int) ≤ 2 * v) (h3 : v < (2 ^ m : Nat)) (h4 : ((2 ^ m : Nat) : Int) ≤ 2 * v) : n = m := by
  rcases Nat.lt_trichotomy n m with h | h | h
  · have := Nat.pow_le_pow_right (show 0 < 2 by decide) (show n + 1 ≤ m by omega)
    rw [Nat.pow_succ] at this; omega
  · exact h
  · have := Nat.pow_le_pow_right (show 0 < 2 by decide) (show m + 1 ≤ n by omega)
    rw [Nat.pow_succ] at this; omega
/-- Join at a number of n bits. -/
def joinAt (neg : Bool) (v e : Int) (more : Bool) (n : Nat) : Int :=
  nearI neg (v / pw (max ((n : Int) - 64) 0)) (max ((n : Int) - 64) 0) e (Lib.bitLen (v / pw (max ((n : Int) - 64) 0)).toNat : Int) (more || (v % pw (max ((n : Int) - 64) 0) != 0))
theorem JoinPost.at {neg more : Bool} {v e : Int} (n : Nat) (h1 : v < (2 ^ n : Nat)) (h2 : ((2 ^ n : Nat) : Int) ≤ 2 * v) {r : Int} (hr : joinAt neg v e more n = r) :
    ∀ (w : World) (en : Ending) (w' : World), JoinPost neg v e more w en w' → en = .returned (.int .u64 r) ∧ Below w.heap.size w w' := by
  rintro w en w' ⟨m, over, top, size, lost, hm, h3, h4, rfl, rfl, hl, rfl, rfl, hb⟩
  have hv : v ≠ 0 := by have := Nat.two_pow_pos n; omega
  obtain rfl := len_unique h1 h2 h3 (h4 hv)
  refine ⟨?_, hb⟩
  rw [← hr]
  unfold joinAt
  congr 4
  cases lost
  · have := hl.1 rfl; simp [this]
  · have : ¬ v % pw (max ((n : Int) - 64) 0) = 0 := fun e => by have := hl.2 e; cases this
    simp [this]

theorem j1 (w : World) : Calls Tryd.prog 37 #[.bool false, .agg #[.int .u64 0, .int .u64 1], .int .i64 (0), .bool false] w fun e w' => e = .returned (.int .u64 4607182418800017408) ∧ Below w.heap.size w w' :=
  (join_any false 0 1 (0) false (by decide) (by decide) (by decide) (by decide) w).mono (JoinPost.at 1 (by decide +kernel) (by decide +kernel) (by decide +kernel) w)
theorem j2 (w : World) : Calls Tryd.prog 37 #[.bool true, .agg #[.int .u64 0, .int .u64 3], .int .i64 (-1), .bool false] w fun e w' => e = .returned (.int .u64 13832806255468478464) ∧ Below w.heap.size w w' :=
  (join_any true 0 3 (-1) false (by decide) (by decide) (by decide) (by decide) w).mono (JoinPost.at 2 (by decide +kernel) (by decide +kernel) (by decide +kernel) w)
theorem j3 (w : World) : Calls Tryd.prog 37 #[.bool false, .agg #[.int .u64 0, .int .u64 1], .int .i64 (-1075), .bool false] w fun e w' => e = .returned (.int .u64 0) ∧ Below w.heap.size w w' :=
  (join_any false 0 1 (-1075) false (by decide) (by decide) (by decide) (by decide) w).mono (JoinPost.at 1 (by decide +kernel) (by decide +kernel) (by decide +kernel) w)
theorem j4 (w : World) : Calls Tryd.prog 37 #[.bool false, .agg #[.int .u64 0, .int .u64 1], .int .i64 (-1075), .bool true] w fun e w' => e = .returned (.int .u64 1) ∧ Below w.heap.size w w' :=
  (join_any false 0 1 (-1075) true (by decide) (by decide) (by decide) (by decide) w).mono (JoinPost.at 1 (by decide +kernel) (by decide +kernel) (by decide +kernel) w)
theorem j5 (w : World) : Calls Tryd.prog 37 #[.bool false, .agg #[.int .u64 0, .int .u64 9007199254740993], .int .i64 (0), .bool false] w fun e w' => e = .returned (.int .u64 4845873199050653696) ∧ Below w.heap.size w w' :=
  (join_any false 0 9007199254740993 (0) false (by decide) (by decide) (by decide) (by decide) w).mono (JoinPost.at 54 (by decide +kernel) (by decide +kernel) (by decide +kernel) w)
theorem j6 (w : World) : Calls Tryd.prog 37 #[.bool false, .agg #[.int .u64 0, .int .u64 9007199254740995], .int .i64 (0), .bool false] w fun e w' => e = .returned (.int .u64 4845873199050653698) ∧ Below w.heap.size w w' :=
  (join_any false 0 9007199254740995 (0) false (by decide) (by decide) (by decide) (by decide) w).mono (JoinPost.at 54 (by decide +kernel) (by decide +kernel) (by decide +kernel) w)
theorem j7 (w : World) : Calls Tryd.prog 37 #[.bool false, .agg #[.int .u64 0, .int .u64 9007199254740993], .int .i64 (0), .bool true] w fun e w' => e = .returned (.int .u64 4845873199050653697) ∧ Below w.heap.size w w' :=
  (join_any false 0 9007199254740993 (0) true (by decide) (by decide) (by decide) (by decide) w).mono (JoinPost.at 54 (by decide +kernel) (by decide +kernel) (by decide +kernel) w)
theorem j8 (w : World) : Calls Tryd.prog 37 #[.bool false, .agg #[.int .u64 0, .int .u64 1], .int .i64 (1024), .bool false] w fun e w' => e = .returned (.int .u64 9218868437227405312) ∧ Below w.heap.size w w' :=
  (join_any false 0 1 (1024) false (by decide) (by decide) (by decide) (by decide) w).mono (JoinPost.at 1 (by decide +kernel) (by decide +kernel) (by decide +kernel) w)
theorem k1 (w : World) : Calls Tryd.prog 34 #[.int .u64 0] w fun e w' => e = .returned (.int .i64 0) ∧ w = w' := by
  have e : kindI 0 = 0 := by decide +kernel
  rw [← e]; exact kind_any 0 (by decide) w
theorem k2 (w : World) : Calls Tryd.prog 34 #[.int .u64 1] w fun e w' => e = .returned (.int .i64 1) ∧ w = w' := by
  have e : kindI 1 = 1 := by decide +kernel
  rw [← e]; exact kind_any 1 (by decide) w
theorem k3 (w : World) : Calls Tryd.prog 34 #[.int .u64 4607182418800017408] w fun e w' => e = .returned (.int .i64 2) ∧ w = w' := by
  have e : kindI 4607182418800017408 = 2 := by decide +kernel
  rw [← e]; exact kind_any 4607182418800017408 (by decide) w
theorem k4 (w : World) : Calls Tryd.prog 34 #[.int .u64 18442240474082181120] w fun e w' => e = .returned (.int .i64 3) ∧ w = w' := by
  have e : kindI 18442240474082181120 = 3 := by decide +kernel
  rw [← e]; exact kind_any 18442240474082181120 (by decide) w
theorem k5 (w : World) : Calls Tryd.prog 34 #[.int .u64 9218868437227405313] w fun e w' => e = .returned (.int .i64 4) ∧ w = w' := by
  have e : kindI 9218868437227405313 = 4 := by decide +kernel
  rw [← e]; exact kind_any 9218868437227405313 (by decide) w
theorem ng1 (w : World) : Calls Tryd.prog 71 #[.int .u64 9218868437227405313] w fun e w' => e = .returned (.int .u64 9221120237041090560) ∧ w = w' := by
  have e : negI 9218868437227405313 = 9221120237041090560 := by decide +kernel
  rw [← e]; exact neg_any 9218868437227405313 (by decide) w
theorem sp1 (w : World) : Calls Tryd.prog 56 #[.int .u64 13832806255468478464] w fun e w' => e = .returned (.tuple #[.bool true, .int .u64 6755399441055744, .int .i64 (-52)]) ∧ w = w' := by
  have e1 : negB 13832806255468478464 = true := by decide +kernel
  have e2 : mantI 13832806255468478464 = 6755399441055744 := by decide +kernel
  have e3 : powI 13832806255468478464 = -52 := by decide +kernel
  rw [← e1, ← e2, ← e3]; exact split_any 13832806255468478464 (by decide) w
theorem sp2 (w : World) : Calls Tryd.prog 56 #[.int .u64 5] w fun e w' => e = .returned (.tuple #[.bool false, .int .u64 5, .int .i64 (-1074)]) ∧ w = w' := by
  have e1 : negB 5 = false := by decide +kernel
  have e2 : mantI 5 = 5 := by decide +kernel
  have e3 : powI 5 = -1074 := by decide +kernel
  rw [← e1, ← e2, ← e3]; exact split_any 5 (by decide) w

end Go.Proofs.YtnefacnceemklaaDoor

/-
  The number that Join tells, by the whole number of 128 bits; and that a greater one is joined to no lesser number.
-/
namespace Go.Proofs.YtnefacnceemklaaDoor
open Go.RowKit Go.Shelf

/-- Rounding at a place, by what is left. -/
theorem round_eq (v c : Int) (more : Bool) (hc : 1 ≤ c) :
    roundI v c more = if pw (c - 1) ≤ v % pw c ∧ (more = true ∨ v % pw c ≠ pw (c - 1) ∨ v / pw c % 2 ≠ 0) then v / pw c + 1 else v / pw c := by
  have e : pw c = 2 * pw (c - 1) := by
    have := pw_add (c - 1) 1 (by omega) (by decide)
    rw [show c - 1 + 1 = c by omega, show pw 1 = 2 from rfl] at this; omega
  have hp := pw_pos (c - 1)
  have hm : v % pw (c - 1) = v % pw c % pw (c - 1) := (Int.emod_emod_of_dvd v ⟨2, by rw [e, Int.mul_comm]⟩).symm
  have r0 := Int.emod_nonneg v (show pw c ≠ 0 by omega)
  have r1 := Int.emod_lt_of_pos v (show 0 < pw c by omega)
  unfold roundI
  rw [hm]
  generalize v % pw c = R at *
  generalize v / pw c = A at *
  generalize pw (c - 1) = h at *
  have key : ((R != R % h) && (more || (R % h != 0) || (A % 2 != 0))) = true ↔ (h ≤ R ∧ (more = true ∨ R ≠ h ∨ A % 2 ≠ 0)) := by
    have hR : (R < h ∧ R % h = R) ∨ (h ≤ R ∧ R % h = R - h) := by
      by_cases c1 : R < h
      · exact .inl ⟨c1, Int.emod_eq_of_lt r0 c1⟩
      · refine .inr ⟨by omega, ?_⟩
        have : R % h = (R - h) % h := by rw [show R = (R - h) + h by omega, Int.add_emod_right, Int.add_sub_cancel]
        rw [this, Int.emod_eq_of_lt (by omega) (by omega)]
    generalize R % h = t at *
    simp only [bne_iff_ne, Bool.and_eq_true, Bool.or_eq_true, ne_eq, or_assoc]
    constructor
    · rintro ⟨a, b⟩
      refine ⟨by omega, ?_⟩
      rcases b with b | b | b
      · exact .inl b
      · exact .inr (.inl (by omega))
      · exact .inr (.inr b)
    · rintro ⟨a, b⟩
      refine ⟨by omega, ?_⟩
      rcases b with b | b | b
      · exact .inl b
      · exact .inr (.inl (by omega))
      · exact .inr (.inr b)
  by_cases c : h ≤ R ∧ (more = true ∨ R ≠ h ∨ A % 2 ≠ 0)
  · rw [if_pos (key.2 c), if_pos c]
  · rw [if_neg (fun x => c (key.1 x)), if_neg c]

/-- The top bits, and whether something was left, are rounded as the whole. -/
theorem round_top (v o c : Int) (more lost : Bool) (ho : 0 ≤ o) (hc : 1 ≤ c) (hl : lost = false ↔ v % pw o = 0) :
    roundI (v / pw o) c (more || lost) = roundI v (c + o) more := by
  have hq := pw_pos o
  have r0 := Int.emod_nonneg v (show pw o ≠ 0 by omega)
  have r1 := Int.emod_lt_of_pos v hq
  have ev := Int.mul_ediv_add_emod v (pw o)
  rw [round_eq _ c _ hc, round_eq v (c + o) more (by omega)]
  have e1 : v / pw (c + o) = v / pw o / pw c := by rw [Int.add_comm, pw_add _ _ ho (by omega), Int.ediv_ediv_of_nonneg (Int.le_of_lt hq)]
  have e2 : v % pw (c + o) = (v / pw o % pw c) * pw o + v % pw o := by
    have a := Int.mul_ediv_add_emod v (pw (c + o))
    have b := Int.mul_ediv_add_emod (v / pw o) (pw c)
    rw [e1, pw_add c o (by omega) ho] at a
    have k : pw c * pw o * (v / pw o / pw c) = (v / pw o - v / pw o % pw c) * pw o := by
      rw [show v / pw o - v / pw o % pw c = pw c * (v / pw o / pw c) by omega, Int.mul_assoc, Int.mul_comm (pw o), ← Int.mul_assoc]
    rw [k, Int.sub_mul, Int.mul_comm (v / pw o) (pw o)] at a
    rw [pw_add c o (by omega) ho]
    omega
  have e3 : pw (c + o - 1) = pw (c - 1) * pw o := by rw [← pw_add _ _ (by omega) ho]; congr 1; omega
  rw [e1, e2, e3]
  have hp := pw_pos (c - 1)
  generalize v / pw o % pw c = R at *
  generalize v / pw o / pw c = A at *
  generalize v % pw o = r at *
  generalize pw o = q at *
  generalize pw (c - 1) = h at *
  have k1 : h ≤ R ↔ h * q ≤ R * q + r := by
    constructor
    · intro k; have := Int.mul_le_mul_of_nonneg_right k (Int.le_of_lt hq); omega
    · intro k
      rcases Int.lt_or_le R h with k2 | k2
      · have := Int.mul_le_mul_of_nonneg_right (show R + 1 ≤ h by omega) (Int.le_of_lt hq)
        rw [Int.add_mul] at this; omega
      · exact k2
  have k2 : (R = h ∧ r = 0) ↔ R * q + r = h * q := by
    constructor
    · rintro ⟨rfl, rfl⟩; omega
    · intro k
      have : R = h := by
        rcases Int.lt_trichotomy R h with g | g | g
        · have := Int.mul_le_mul_of_nonneg_right (show R + 1 ≤ h by omega) (Int.le_of_lt hq)
          rw [Int.add_mul] at this; omega
        · exact g
        · have := Int.mul_le_mul_of_nonneg_right (show h + 1 ≤ R by omega) (Int.le_of_lt hq)
          rw [Int.add_mul] at this; omega
      subst this; exact ⟨rfl, by omega⟩
  have k3 : ((more || lost) = true ∨ R ≠ h ∨ A % 2 ≠ 0) ↔ (more = true ∨ R * q + r ≠ h * q ∨ A % 2 ≠ 0) := by
    cases more
    · cases lost
      · have : r = 0 := hl.1 rfl
        simp only [Bool.or_self, Bool.false_eq_true, false_or]
        constructor
        · rintro (g | g)
          · exact .inl (fun e => g (k2.2 e).1)
          · exact .inr g
        · rintro (g | g)
          · exact .inl (fun e => g (k2.1 ⟨e, this⟩))
          · exact .inr g
      · have : r ≠ 0 := fun e => by have := hl.2 e; cases this
        simp only [Bool.or_true, true_or, Bool.false_eq_true, false_or, true_iff]
        exact .inl (fun e => this (k2.2 e).2)
    · simp
  simp only [k1, k3]

theorem size_of' {v : Int} (h1 : 9223372036854775808 ≤ v) (h2 : v < 18446744073709551616) : (Lib.bitLen v.toNat : Int) = 64 := by
  obtain ⟨a, b, _⟩ := bitLen_bd v.toNat (by omega)
  have b := b (by omega)
  have : Lib.bitLen v.toNat = 64 := len_unique (v := v) (by generalize 2 ^ Lib.bitLen v.toNat = z at *; omega) (by generalize 2 ^ Lib.bitLen v.toNat = z at *; omega) (by have : (((2 ^ 64 : Nat)) : Int) = 18446744073709551616 := rfl; omega) (by have : (((2 ^ 64 : Nat)) : Int) = 18446744073709551616 := rfl; omega)
  rw [this]; rfl
def packV (v c : Int) (more : Bool) : Int := if c ≤ 0 then v * pw (-c) else roundI v c more
/-- The place of the lowest bit that is kept of a number of n bits times 2^e. -/
def placeI (e n : Int) : Int := max (e + n - 53) (-1074)
/-- The nearest number to v times 2^e, v of n bits. -/
def joinV (neg : Bool) (v e n : Int) (more : Bool) : Int :=
  if v = 0 ∨ e < -2148 - n then signI neg
  else if 1024 < e ∨ 1024 < e + n then signI neg + 9218868437227405312
  else signI neg + (packV v (placeI e n - e) more + (placeI e n + 1074) * 4503599627370496)

theorem join_full {neg more : Bool} {v e : Int} {w : World} {en : Ending} {w' : World} (h0 : 0 ≤ v) (h : JoinPost neg v e more w en w') :
    ∃ n : Nat, n ≤ 128 ∧ v < (2 ^ n : Nat) ∧ (v ≠ 0 → ((2 ^ n : Nat) : Int) ≤ 2 * v) ∧ en = .returned (.int .u64 (joinV neg v e n more)) ∧ Below w.heap.size w w' := by
  obtain ⟨n, over, top, size, lost, hn, h1, h2, rfl, rfl, hl, rfl, rfl, hb⟩ := h
  refine ⟨n, hn, h1, h2, ?_, hb⟩
  congr 2
  by_cases hz : v = 0
  · subst hz
    have : (0 : Int) / pw (max ((n : Int) - 64) 0) = 0 := Int.zero_ediv _
    unfold nearI joinV
    rw [this, if_pos (.inl rfl), if_pos (.inl rfl)]
  have h2 := h2 hz
  have en2 : ((2 ^ n : Nat) : Int) = pw (n : Int) := rfl
  by_cases c : (n : Int) ≤ 64
  · have e0 : max ((n : Int) - 64) 0 = 0 := by omega
    rw [e0] at hl ⊢
    rw [show pw 0 = 1 from rfl] at hl ⊢
    rw [Int.ediv_one]
    have hl2 : lost = false := hl.2 (by omega)
    have hv64 : v < 18446744073709551616 := by
      rw [en2] at h1
      have := pow_lt (show 0 ≤ (n : Int) by omega) c
      rw [pw_64] at this; omega
    obtain ⟨s1, s2, s3⟩ := bitLen_bd v.toNat (by omega)
    have s2 := s2 (by omega)
    have hs : Lib.bitLen v.toNat = n := len_unique (v := v) (by generalize 2 ^ Lib.bitLen v.toNat = z at *; omega) (by generalize 2 ^ Lib.bitLen v.toNat = z at *; omega) h1 h2
    rw [hs, hl2, Bool.or_false]
    unfold nearI joinV
    by_cases c1 : v = 0 ∨ e < -2148 - 0 - (n : Int)
    · have d1 : v = 0 ∨ e < -2148 - (n : Int) := by omega
      rw [if_pos c1, if_pos d1]
    · have d1 : ¬(v = 0 ∨ e < -2148 - (n : Int)) := by omega
      rw [if_neg c1, if_neg d1]
      by_cases c2 : 1024 < e ∨ 1024 < 0 + e + (n : Int)
      · have d2 : 1024 < e ∨ 1024 < e + (n : Int) := by omega
        rw [if_pos c2, if_pos d2]
      · have d2 : ¬(1024 < e ∨ 1024 < e + (n : Int)) := by omega
        rw [if_neg c2, if_neg d2]
        have eL : lastI (e + 0) n = placeI e n := by unfold lastI placeI; congr 1; omega
        rw [eL, Int.add_zero]
        congr 2
        unfold packI packV
        by_cases c3 : placeI e n - e ≤ 0
        · rw [if_pos c3, if_pos c3]
          have c4 : -(placeI e n - e) ≤ 53 - (n : Int) := by unfold placeI; omega
          rw [Nat.min_eq_left (by omega), pw_eq, IntKind.wrap_u64, Int.emod_eq_of_lt (Int.mul_nonneg h0 (Int.le_of_lt (pw_pos _)))]
          rw [en2] at h1
          have a := Int.mul_lt_mul_of_pos_right h1 (pw_pos (-(placeI e n - e)))
          rw [← pw_add _ _ (by omega) (by omega)] at a
          have b := pow_lt (show 0 ≤ (n : Int) + -(placeI e n - e) by omega) (show (n : Int) + -(placeI e n - e) ≤ 64 by omega)
          rw [pw_64] at b
          omega
        · rw [if_neg c3, if_neg c3]
  · have e0 : max ((n : Int) - 64) 0 = (n : Int) - 64 := by omega
    rw [e0] at hl ⊢
    have hq := pw_pos ((n : Int) - 64)
    have esp : pw (n : Int) = pw ((n : Int) - 64) * 18446744073709551616 := by rw [← pw_64, ← pw_add _ _ (by omega) (by omega)]; congr 1; omega
    have t1 : v / pw ((n : Int) - 64) < 18446744073709551616 := Int.ediv_lt_of_lt_mul hq (by rw [en2, esp, Int.mul_comm] at h1; exact h1)
    have t0 : 9223372036854775808 ≤ v / pw ((n : Int) - 64) := by
      rw [Int.le_ediv_iff_mul_le hq, Int.mul_comm]
      rw [en2, esp] at h2; omega
    have hs : (Lib.bitLen (v / pw ((n : Int) - 64)).toNat : Int) = 64 := by
      have := size_of' t0 t1
      exact this
    rw [hs]
    unfold nearI joinV
    by_cases c1 : e < -2148 - (n : Int)
    · have d1 : v / pw ((n : Int) - 64) = 0 ∨ e < -2148 - ((n : Int) - 64) - 64 := by omega
      rw [if_pos d1, if_pos (.inr c1)]
    · have d1 : ¬(v / pw ((n : Int) - 64) = 0 ∨ e < -2148 - ((n : Int) - 64) - 64) := by omega
      have d3 : ¬(v = 0 ∨ e < -2148 - (n : Int)) := by omega
      rw [if_neg d1, if_neg d3]
      by_cases c2 : 1024 < e ∨ 1024 < e + (n : Int)
      · have d2 : 1024 < e ∨ 1024 < (n : Int) - 64 + e + 64 := by omega
        rw [if_pos d2, if_pos c2]
      · have d2 : ¬(1024 < e ∨ 1024 < (n : Int) - 64 + e + 64) := by omega
        rw [if_neg d2, if_neg c2]
        have eL : lastI (e + ((n : Int) - 64)) 64 = placeI e n := by unfold lastI placeI; congr 1; omega
        rw [eL]
        congr 2
        have c3 : 11 ≤ placeI e n - (e + ((n : Int) - 64)) := by unfold placeI; omega
        unfold packI packV
        rw [if_neg (by omega), if_neg (by omega), round_top v ((n : Int) - 64) _ more lost (by omega) (by omega) hl]
        congr 1; omega
end Go.Proofs.YtnefacnceemklaaDoor

/-
  A greater int is never joined to a lesser number; a little more is never less, nor more than the next int.
-/
namespace Go.Proofs.YtnefacnceemklaaDoor
open Go.RowKit Go.Shelf

/-- n is how many bits v has. -/
structure Bits (v : Int) (n : Nat) : Prop where
  v0 : 0 ≤ v
  lt : v < pw n
  ge : v ≠ 0 → pw n ≤ 2 * v

theorem pw_half (c : Int) (h : 1 ≤ c) : pw c = 2 * pw (c - 1) := by
  have := pw_add (c - 1) 1 (by omega) (by decide)
  rw [show c - 1 + 1 = c by omega, show pw 1 = 2 from rfl] at this; omega
theorem pw_lt_of {a b : Int} (_ha : 0 ≤ a) (hb : 0 ≤ b) (h : pw a < pw b) : a < b := by
  rcases Int.lt_or_le a b with h1 | h1
  · exact h1
  · have := pow_lt hb h1; omega
theorem bits_mono {a b : Int} {na nb : Nat} (_ha : Bits a na) (hb : Bits b nb) (h : a ≤ b) (hz : a ≠ 0) : na ≤ nb := by
  have h1 := _ha.ge hz
  have h2 := hb.lt
  have h3 : pw (na : Int) < pw ((nb : Int) + 1) := by
    rw [pw_add _ _ (by omega) (by decide), show pw 1 = 2 from rfl]; omega
  have := pw_lt_of (by omega) (by omega) h3
  omega

theorem packV_bd {v c : Int} {n : Nat} (more : Bool) (hv : Bits v n) (hc : (n : Int) - 53 ≤ c) : 0 ≤ packV v c more ∧ packV v c more ≤ 9007199254740992 := by
  have e53 : pw 53 = 9007199254740992 := rfl
  have h1 := hv.lt
  have h0 := hv.v0
  unfold packV
  by_cases k : c ≤ 0
  · rw [if_pos k]
    have a := Int.mul_lt_mul_of_pos_right h1 (pw_pos (-c))
    rw [← pw_add _ _ (by omega) (by omega)] at a
    have b := pow_lt (show 0 ≤ (n : Int) + -c by omega) (show (n : Int) + -c ≤ 53 by omega)
    exact ⟨Int.mul_nonneg h0 (Int.le_of_lt (pw_pos _)), by omega⟩
  · rw [if_neg k]
    have k0 : 0 ≤ v / pw c := Int.ediv_nonneg h0 (Int.le_of_lt (pw_pos _))
    have k1 : v / pw c < 9007199254740992 := by
      refine Int.ediv_lt_of_lt_mul (pw_pos _) ?_
      have b := pow_lt (show 0 ≤ (n : Int) by omega) (show (n : Int) ≤ 53 + c by omega)
      rw [pw_add 53 c (by decide) (by omega), e53] at b
      omega
    unfold roundI
    split <;> omega
theorem round_ge (v c : Int) (more : Bool) : v / pw c ≤ roundI v c more := by unfold roundI; split <;> omega
theorem round_le (v c : Int) (more : Bool) : roundI v c more ≤ v / pw c + 1 := by unfold roundI; split <;> omega
theorem packV_full {v : Int} {n : Nat} (more : Bool) (hv : Bits v n) (hz : v ≠ 0) : 4503599627370496 ≤ packV v ((n : Int) - 53) more := by
  have h1 := hv.ge hz
  have e52 : pw 52 = 4503599627370496 := rfl
  unfold packV
  by_cases k : (n : Int) - 53 ≤ 0
  · rw [if_pos k]
    have a := Int.mul_le_mul_of_nonneg_right h1 (Int.le_of_lt (pw_pos (-((n : Int) - 53))))
    rw [← pw_add _ _ (by omega) (by omega), show (n : Int) + -((n : Int) - 53) = 53 by omega, show pw 53 = 9007199254740992 from rfl, Int.mul_assoc] at a
    omega
  · rw [if_neg k]
    refine Int.le_trans ?_ (round_ge _ _ _)
    rw [Int.le_ediv_iff_mul_le (pw_pos _), ← e52, ← pw_add _ _ (by decide) (by omega), show (52 : Int) + ((n : Int) - 53) = (n : Int) - 1 by omega]
    rw [pw_half n (by omega)] at h1
    omega

/-! ### At one place a greater number is rounded to no lesser one -/
theorem div_mod_cmp {a b p : Int} (hp : 0 < p) (h : a < b) : a / p < b / p ∨ (a / p = b / p ∧ a % p < b % p) := by
  have e1 := Int.mul_ediv_add_emod a p
  have e2 := Int.mul_ediv_add_emod b p
  have m0 := Int.emod_nonneg a (Int.ne_of_gt hp)
  have m1 := Int.emod_lt_of_pos b hp
  rcases Int.lt_trichotomy (a / p) (b / p) with k | k | k
  · exact .inl k
  · rw [k] at e1; exact .inr ⟨k, by omega⟩
  · exfalso
    have := Int.mul_le_mul_of_nonneg_left (show b / p + 1 ≤ a / p by omega) (Int.le_of_lt hp)
    rw [Int.mul_add] at this
    omega
theorem pack_more (v c : Int) : packV v c false ≤ packV v c true := by
  unfold packV
  by_cases k : c ≤ 0
  · rw [if_pos k, if_pos k]; omega
  · rw [if_neg k, if_neg k, round_eq v c false (by omega), round_eq v c true (by omega)]
    by_cases h : pw (c - 1) ≤ v % pw c
    · rw [if_pos (show pw (c - 1) ≤ v % pw c ∧ (true = true ∨ _) from ⟨h, .inl rfl⟩)]
      split <;> omega
    · rw [if_neg (fun x => h x.1), if_neg (fun x => h x.1)]; omega
theorem pack_next {a b : Int} (c : Int) (h : a < b) : packV a c true ≤ packV b c false := by
  unfold packV
  by_cases k : c ≤ 0
  · rw [if_pos k, if_pos k]; exact Int.mul_le_mul_of_nonneg_right (by omega) (Int.le_of_lt (pw_pos _))
  · rw [if_neg k, if_neg k]
    rcases div_mod_cmp (pw_pos c) h with h1 | ⟨h1, h2⟩
    · have := round_le a c true; have := round_ge b c false; omega
    · rw [round_eq a c true (by omega), round_eq b c false (by omega), h1]
      by_cases hh : pw (c - 1) ≤ a % pw c
      · rw [if_pos ⟨hh, .inl rfl⟩, if_pos ⟨by omega, .inr (.inl (by omega))⟩]; omega
      · rw [if_neg (fun x => hh x.1)]; split <;> omega
theorem pack_mono {a b : Int} (c : Int) (h : a ≤ b) : packV a c false ≤ packV b c false := by
  rcases Int.lt_or_eq_of_le h with h | rfl
  · exact Int.le_trans (pack_more a c) (pack_next c h)
  · omega

theorem joinV_bd {v e : Int} {n : Nat} (more : Bool) (hv : Bits v n) : 0 ≤ joinV false v e n more ∧ joinV false v e n more ≤ 9218868437227405312 := by
  unfold joinV signI
  simp only [Bool.false_eq_true, if_false]
  split
  · omega
  · split
    · omega
    · have hb := packV_bd (c := placeI e n - e) more hv (by unfold placeI; omega)
      have : -1074 ≤ placeI e n ∧ placeI e n ≤ 971 := by unfold placeI; omega
      omega
theorem joinV_mono {a b e : Int} {na nb : Nat} {ma mb : Bool} (ha : Bits a na) (hb : Bits b nb) (h : a ≤ b) (hp : ∀ c, packV a c ma ≤ packV b c mb) : joinV false a e na ma ≤ joinV false b e nb mb := by
  by_cases hz : a = 0
  · have : joinV false a e na ma = 0 := by unfold joinV; rw [if_pos (.inl hz)]; rfl
    rw [this]; exact (joinV_bd mb hb).1
  have hbz : b ≠ 0 := by have := ha.v0; omega
  have hn := bits_mono ha hb h hz
  by_cases c1 : e < -2148 - (na : Int)
  · have : joinV false a e na ma = 0 := by unfold joinV; rw [if_pos (.inr c1)]; rfl
    rw [this]; exact (joinV_bd mb hb).1
  by_cases c2 : 1024 < e ∨ 1024 < e + (nb : Int)
  · have : joinV false b e nb mb = 9218868437227405312 := by
      have d : ¬(b = 0 ∨ e < -2148 - (nb : Int)) := by omega
      unfold joinV; rw [if_neg d, if_pos c2]; rfl
    rw [this]; exact (joinV_bd ma ha).2
  have d1 : ¬(a = 0 ∨ e < -2148 - (na : Int)) := by omega
  have d2 : ¬(b = 0 ∨ e < -2148 - (nb : Int)) := by omega
  have d3 : ¬(1024 < e ∨ 1024 < e + (na : Int)) := by omega
  unfold joinV
  rw [if_neg d1, if_neg d2, if_neg d3, if_neg c2]
  have hL : placeI e na ≤ placeI e nb := by unfold placeI; omega
  rcases Int.lt_or_eq_of_le hL with hL | hL
  · have p1 := (packV_bd (c := placeI e na - e) ma ha (by unfold placeI; omega)).2
    have e2 : placeI e nb - e = (nb : Int) - 53 := by unfold placeI at *; omega
    have p2 := packV_full mb hb hbz
    rw [e2]
    omega
  · rw [hL]
    have := hp (placeI e nb - e)
    omega
end Go.Proofs.YtnefacnceemklaaDoor

