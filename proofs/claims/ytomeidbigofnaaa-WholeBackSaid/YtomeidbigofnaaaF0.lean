/-
  The walks of package float: a number's kind, its parts, its neighbours, its other sign; and the document's own answers to these.
-/
import Derived.Test.YtomeidbigofnaaaT0
namespace Go.Proofs.Ytomeidbigofnaaa
open Go.RowKit Go.Shelf

/-! ### What the functions answer, on ints -/
def expI (x : Int) : Int := x / 4503599627370496 % 2048
def fracI (x : Int) : Int := x % 4503599627370496
def absI (x : Int) : Int := x % 9223372036854775808
def kindI (x : Int) : Int := if 9218868437227405312 < absI x then 4 else if absI x = 9218868437227405312 then 3 else if 4503599627370496 ≤ absI x then 2 else if absI x = 0 then 0 else 1
def rightI (x : Int) : Int := if kindI x = 4 then 9221120237041090560 else x
def negB (x : Int) : Bool := decide (9223372036854775808 ≤ x)
def mantI (x : Int) : Int := if expI x = 2047 then 0 else if expI x = 0 then fracI x else 4503599627370496 + fracI x
def powI (x : Int) : Int := if expI x = 2047 then 0 else if expI x = 0 then -1074 else expI x - 1075
def turnI (x : Int) : Int := (x + 9223372036854775808) % 18446744073709551616
def negI (x : Int) : Int := if kindI x = 4 then 9221120237041090560 else turnI x
def nextI (x : Int) : Int := if kindI x = 4 then 9221120237041090560 else if absI x = 0 then 1 else if x = 9218868437227405312 then x else if 9223372036854775808 < x then x - 1 else x + 1
def prevI (x : Int) : Int := negI (nextI (negI x))

theorem u64_bits_and_top (x : Int) (h : Word x) : bits .and .u64 x 9223372036854775808 = if 9223372036854775808 ≤ x then 9223372036854775808 else 0 := by
  obtain ⟨n, rfl⟩ := Int.eq_ofNat_of_zero_le h.1
  have hn : n < 18446744073709551616 := by have := h.2; omega
  have e := u64_and_nat n (2 ^ 63) hn (by decide)
  rw [show (9223372036854775808 : Int) = ((2 ^ 63 : Nat) : Int) from rfl, e, nat_bit 63 n]
  have h2 : n / 2 ^ 63 % 2 * 2 ^ 63 = if 9223372036854775808 ≤ n then 9223372036854775808 else 0 := by
    rw [show (2 : Nat) ^ 63 = 9223372036854775808 from rfl]
    split <;> omega
  rw [h2, show ((2 ^ 63 : Nat) : Int) = 9223372036854775808 from rfl]
  split <;> split <;> first | rfl | omega
theorem and_mask (x : Int) (k : Nat) (hk : 2 ^ k - 1 < 18446744073709551616) (h0 : 0 ≤ x) (h1 : x < 18446744073709551616) : bits .and .u64 x ((2 ^ k - 1 : Nat) : Int) = x % ((2 ^ k : Nat) : Int) := by
  obtain ⟨n, rfl⟩ := Int.eq_ofNat_of_zero_le h0
  rw [u64_and_nat n (2 ^ k - 1) (by omega) hk, Nat.and_two_pow_sub_one_eq_mod]
  rfl
theorem u64_andNot_top (x : Int) (h : Word x) : bits .andNot .u64 x 9223372036854775808 = absI x := by
  obtain ⟨n, rfl⟩ := Int.eq_ofNat_of_zero_le h.1
  have hn : n < 18446744073709551616 := by have := h.2; omega
  have e := u64_andNot_nat n 9223372036854775808 hn (by decide)
  rw [show (9223372036854775808 : Int) = ((9223372036854775808 : Nat) : Int) from rfl, e]
  rw [show (18446744073709551615 - 9223372036854775808 : Nat) = 2 ^ 63 - 1 from rfl, Nat.and_two_pow_sub_one_eq_mod]
  rfl
theorem xor_low (r : Nat) (h : r < 2 ^ 63) : r ^^^ 2 ^ 63 = 2 ^ 63 + r := by
  apply Nat.eq_of_testBit_eq
  intro i
  rw [Nat.testBit_xor]
  rcases Nat.lt_trichotomy i 63 with hi | rfl | hi
  · rw [Nat.testBit_two_pow_add_gt hi, Nat.testBit_two_pow_of_ne (by omega)]; simp
  · rw [Nat.testBit_two_pow_add_eq, Nat.testBit_two_pow_self]; simp
  · have k : 2 ^ 64 ≤ 2 ^ i := Nat.pow_le_pow_right (by decide) (by omega)
    rw [Nat.testBit_lt_two_pow (x := 2 ^ 63 + r) (i := i) (by omega), Nat.testBit_lt_two_pow (x := r) (i := i) (by omega), Nat.testBit_two_pow_of_ne (by omega)]; rfl
theorem xor_top (n : Nat) (h : n < 2 ^ 64) : n ^^^ 2 ^ 63 = (n + 2 ^ 63) % 2 ^ 64 := by
  by_cases hn : n < 2 ^ 63
  · rw [xor_low n hn]; omega
  · obtain ⟨r, hr⟩ : ∃ r, n = 2 ^ 63 + r := ⟨n - 2 ^ 63, by omega⟩
    have e := xor_low r (by omega)
    rw [hr, ← e, Nat.xor_assoc, Nat.xor_self, Nat.xor_zero, e]; omega
theorem u64_xor_top (x : Int) (h : Word x) : bits .xor .u64 x 9223372036854775808 = turnI x := by
  obtain ⟨n, rfl⟩ := Int.eq_ofNat_of_zero_le h.1
  have hn : n < 18446744073709551616 := by have := h.2; omega
  rw [show (9223372036854775808 : Int) = ((2 ^ 63 : Nat) : Int) from rfl, u64_xor_nat n (2 ^ 63) hn (by decide), xor_top n hn]
  rfl

/-- The parts hang together. -/
theorem abs_parts (x : Int) (_h : Word x) : absI x = expI x * 4503599627370496 + fracI x ∧ 0 ≤ expI x ∧ expI x < 2048 ∧ 0 ≤ fracI x ∧ fracI x < 4503599627370496 := by
  unfold absI expI fracI Word at *; omega

theorem and_exp (x : Int) (h : Word x) : bits .and .u64 (x / 4503599627370496) 2047 = expI x := by
  have := and_mask (x / 4503599627370496) 11 (by decide) (by have := h.1; omega) (by have := h.2; omega)
  exact this
theorem and_frac (x : Int) (h : Word x) : bits .and .u64 x 4503599627370495 = fracI x := and_mask x 52 (by decide) h.1 h.2
theorem or_lead (x : Int) : bits .or .u64 4503599627370496 (fracI x) = 4503599627370496 + fracI x := by
  have h0 : 0 ≤ fracI x := by unfold fracI; omega
  have h1 : fracI x < 4503599627370496 := by unfold fracI; omega
  obtain ⟨n, hn⟩ := Int.eq_ofNat_of_zero_le h0
  rw [hn] at h1 ⊢
  rw [show (4503599627370496 : Int) = ((2 ^ 52 : Nat) : Int) from rfl, u64_or_nat (2 ^ 52) n (by decide) (by omega), Plain.nat_join 52 (2 ^ 52) n (by decide) (by have : (2 : Nat) ^ 52 = 4503599627370496 := rfl; omega)]
  rfl

/-! ### Kind -/
set_option maxHeartbeats 400000 in
theorem kind_any (x : Int) (h : Word x) (w : World) : Calls Try.prog 25 #[.int .u64 x] w fun e w' => e = .returned (.int .i64 (kindI x)) ∧ w = w' := by
  have hr := u64_andNot_top x h
  have b0 : 0 ≤ absI x := by unfold absI; omega
  have hk : Hid (kindI x = if 9218868437227405312 < absI x then 4 else if absI x = 9218868437227405312 then 3 else if 4503599627370496 ≤ absI x then 2 else if absI x = 0 then 0 else 1) := rfl
  generalize kindI x = k at *
  generalize absI x = r at *
  by_cases c1 : 9218868437227405312 < r
  · have e : Hid (4 = k) := by rw [hk.out, if_pos c1]; rfl
    go_enter Try.func25, Try.ntmps25
    go_wp2
    go_ret
    exact ⟨congrArg (fun z => Ending.returned (.int .i64 z)) e.out, rfl⟩
  · by_cases c2 : r = 9218868437227405312
    · have e : Hid (3 = k) := by rw [hk.out, if_neg c1, if_pos c2]; rfl
      have hc2 : (r == 9218868437227405312) = true := by simpa using c2
      clear c2
      go_enter Try.func25, Try.ntmps25
      go_wp2
      go_ret
      exact ⟨congrArg (fun z => Ending.returned (.int .i64 z)) e.out, rfl⟩
    · have hc2 : (r == 9218868437227405312) = false := by simpa using c2
      by_cases c3 : 4503599627370496 ≤ r
      · have e : Hid (2 = k) := by rw [hk.out, if_neg c1, if_neg c2, if_pos c3]; rfl
        go_enter Try.func25, Try.ntmps25
        go_wp2
        go_ret
        exact ⟨congrArg (fun z => Ending.returned (.int .i64 z)) e.out, rfl⟩
      · by_cases c4 : r = 0
        · have e : Hid (0 = k) := by rw [hk.out, if_neg c1, if_neg c2, if_neg c3, if_pos c4]; rfl
          have hc4 : (r != 0) = false := by simpa using c4
          clear c4
          go_enter Try.func25, Try.ntmps25
          go_wp2
          go_ret
          exact ⟨congrArg (fun z => Ending.returned (.int .i64 z)) e.out, rfl⟩
        · have e : Hid (1 = k) := by rw [hk.out, if_neg c1, if_neg c2, if_neg c3, if_neg c4]; rfl
          have hc4 : (r != 0) = true := by simpa using c4
          go_enter Try.func25, Try.ntmps25
          go_wp2
          go_ret
          exact ⟨congrArg (fun z => Ending.returned (.int .i64 z)) e.out, rfl⟩

theorem kind_parts (x : Int) (h : Word x) : kindI x = if expI x = 2047 then (if fracI x = 0 then 3 else 4) else if expI x = 0 then (if fracI x = 0 then 0 else 1) else 2 := by
  obtain ⟨e, a, b, c, d⟩ := abs_parts x h
  unfold kindI
  rw [e]
  generalize expI x = p at *
  generalize fracI x = q at *
  clear e
  repeat' split
  all_goals omega

set_option maxHeartbeats 400000 in
theorem rkind_any (x : Int) (h : Word x) (w : World) : Calls Try.prog 30 #[.int .u64 x] w fun e w' => e = .returned (.int .i64 (kindI x)) ∧ w = w' := by
  have hk := Lib.hid (kind_parts x h)
  obtain ⟨x0, x1⟩ := h
  have he : x / 4503599627370496 % 2048 = expI x := rfl
  have hf : x % 4503599627370496 = fracI x := rfl
  generalize kindI x = k at *
  generalize expI x = p at *
  generalize fracI x = q at *
  rcases Bool.eq_false_or_eq_true (p == 2047) with c1 | c1 <;> rcases Bool.eq_false_or_eq_true (q == 0) with c2 | c2 <;> rcases Bool.eq_false_or_eq_true (p == 0) with c3 | c3
  all_goals
    have hk2 : Hid (∀ z : Int, z = (if p == 2047 then (if q == 0 then 3 else 4) else if p == 0 then (if q == 0 then 0 else 1) else 2) → Ending.returned (Value.int .i64 z) = .returned (.int .i64 k)) := by
      intro z hz; rw [hz, hk.out]; simp
    rw [c1, c2, c3] at hk2
  all_goals
    go_enter Try.func30, Try.ntmps30
    go_wp2
    go_ret
    exact ⟨hk2.out _ rfl, rfl⟩
end Go.Proofs.Ytomeidbigofnaaa
