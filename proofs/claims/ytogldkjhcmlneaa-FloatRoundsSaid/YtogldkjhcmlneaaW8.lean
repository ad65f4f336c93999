/-
  The head of chapter 2's statements: the chapter's examples come out as it tells them.
-/
import Derived.Test.YtogldkjhcmlneaaW6
import Derived.Test.YtogldkjhcmlneaaW7
namespace Go.Proofs.Ytogldkjhcmlneaa
open Go.RowKit Go.Shelf

instance (x : Int) : Decidable (Word x) := by unfold Word; infer_instance
theorem root_unique (a b v : Int) (h0 : 0 ≤ a) (h1 : 0 ≤ b) (h2 : a * a ≤ v) (h3 : v < (a + 1) * (a + 1)) (h4 : b * b ≤ v) (h5 : v < (b + 1) * (b + 1)) : a = b := by
  rcases Int.lt_trichotomy a b with h | h | h
  · have := Int.mul_le_mul (show a + 1 ≤ b by omega) (show a + 1 ≤ b by omega) (by omega) h1; omega
  · exact h
  · have := Int.mul_le_mul (show b + 1 ≤ a by omega) (show b + 1 ≤ a by omega) (by omega) h0; omega

theorem c_add (w : World) : Calls Try.prog 10 #[.agg #[.int .u64 18446744073709551615, .int .u64 18446744073709551615], .agg #[.int .u64 0, .int .u64 1]] w fun e w' => e = .returned (.tuple #[.agg #[.int .u64 0, .int .u64 0], .bool true]) ∧ Below w.heap.size w w' := by
  refine (add_any _ _ _ _ (by decide) (by decide) (by decide) (by decide) w).mono ?_
  rintro e w' ⟨h, l, o, rfl, hw, hl, hf, hb⟩
  refine ⟨?_, hb⟩
  have : h = 0 ∧ l = 0 ∧ o = true := by
    unfold Word val at *
    rcases hf with ⟨rfl, hf⟩ | ⟨rfl, hf⟩
    all_goals first | exact ⟨by omega, by omega, rfl⟩ | (exfalso; omega)
  obtain ⟨rfl, rfl, rfl⟩ := this; rfl

theorem c_sub (w : World) : Calls Try.prog 12 #[.agg #[.int .u64 0, .int .u64 0], .agg #[.int .u64 0, .int .u64 1]] w fun e w' => e = .returned (.tuple #[.agg #[.int .u64 18446744073709551615, .int .u64 18446744073709551615], .bool true]) ∧ Below w.heap.size w w' := by
  refine (sub_any _ _ _ _ (by decide) (by decide) (by decide) (by decide) w).mono ?_
  rintro e w' ⟨h, l, o, rfl, hw, hl, hf, hb⟩
  refine ⟨?_, hb⟩
  have : h = 18446744073709551615 ∧ l = 18446744073709551615 ∧ o = true := by
    unfold Word val at *
    rcases hf with ⟨rfl, hf⟩ | ⟨rfl, hf⟩
    all_goals first | exact ⟨by omega, by omega, rfl⟩ | (exfalso; omega)
  obtain ⟨rfl, rfl, rfl⟩ := this; rfl

theorem c_mul1 (w : World) : Calls Try.prog 15 #[.int .u64 4294967296, .int .u64 4294967296] w fun e w' => e = .returned (.agg #[.int .u64 1, .int .u64 0]) ∧ Below w.heap.size w w' := by
  refine (mul_any _ _ (by decide) (by decide) w).mono ?_
  rintro e w' ⟨h, l, rfl, hw, hl, hf, hb⟩
  refine ⟨?_, hb⟩
  have hf2 : val h l = 18446744073709551616 := hf.trans (by decide +kernel)
  have : h = 1 ∧ l = 0 := by unfold Word val at *; omega
  obtain ⟨rfl, rfl⟩ := this; rfl

theorem c_mul2 (w : World) : Calls Try.prog 15 #[.int .u64 18446744073709551615, .int .u64 18446744073709551615] w fun e w' => e = .returned (.agg #[.int .u64 18446744073709551614, .int .u64 1]) ∧ Below w.heap.size w w' := by
  refine (mul_any _ _ (by decide) (by decide) w).mono ?_
  rintro e w' ⟨h, l, rfl, hw, hl, hf, hb⟩
  refine ⟨?_, hb⟩
  have hf2 : val h l = 340282366920938463426481119284349108225 := hf.trans (by decide +kernel)
  have : h = 18446744073709551614 ∧ l = 1 := by unfold Word val at *; omega
  obtain ⟨rfl, rfl⟩ := this; rfl

theorem c_shr1 (w : World) : Calls Try.prog 22 #[.agg #[.int .u64 1, .int .u64 0], .int .i64 64] w fun e w' => e = .returned (.tuple #[.agg #[.int .u64 0, .int .u64 1], .bool false]) ∧ Below w.heap.size w w' := by
  refine (shr_any _ _ _ (by decide) (by decide) (by decide) w).mono ?_
  rintro e w' ⟨h, l, o, rfl, hw, hl, hf, ho, hb⟩
  refine ⟨?_, hb⟩
  have hf2 : val h l = 1 := hf.trans (by decide +kernel)
  have ho2 : o = false := by
    have : val 1 0 % pw 64 = 0 := by decide +kernel
    exact ho.2 this
  have : h = 0 ∧ l = 1 := by unfold Word val at *; omega
  obtain ⟨rfl, rfl⟩ := this; rw [ho2]

theorem c_shr2 (w : World) : Calls Try.prog 22 #[.agg #[.int .u64 0, .int .u64 3], .int .i64 1] w fun e w' => e = .returned (.tuple #[.agg #[.int .u64 0, .int .u64 1], .bool true]) ∧ Below w.heap.size w w' := by
  refine (shr_any _ _ _ (by decide) (by decide) (by decide) w).mono ?_
  rintro e w' ⟨h, l, o, rfl, hw, hl, hf, ho, hb⟩
  refine ⟨?_, hb⟩
  have hf2 : val h l = 1 := hf.trans (by decide +kernel)
  have ho2 : o = true := by
    have : val 0 3 % pw 1 ≠ 0 := by decide +kernel
    cases o; exact absurd (ho.1 rfl) this; rfl
  have : h = 0 ∧ l = 1 := by unfold Word val at *; omega
  obtain ⟨rfl, rfl⟩ := this; rw [ho2]

theorem c_shl1 (w : World) : Calls Try.prog 24 #[.agg #[.int .u64 0, .int .u64 1], .int .i64 64] w fun e w' => e = .returned (.agg #[.int .u64 1, .int .u64 0]) ∧ Below w.heap.size w w' := by
  refine (shl_any _ _ _ (by decide) (by decide) (by decide) w).mono ?_
  rintro e w' ⟨h, l, rfl, hw, hl, hf, hb⟩
  refine ⟨?_, hb⟩
  have hf2 : val h l = 18446744073709551616 := hf.trans (by decide +kernel)
  have : h = 1 ∧ l = 0 := by unfold Word val at *; omega
  obtain ⟨rfl, rfl⟩ := this; rfl

theorem c_shl2 (w : World) : Calls Try.prog 24 #[.agg #[.int .u64 0, .int .u64 1], .int .i64 128] w fun e w' => e = .returned (.agg #[.int .u64 0, .int .u64 0]) ∧ Below w.heap.size w w' := by
  refine (shl_any _ _ _ (by decide) (by decide) (by decide) w).mono ?_
  rintro e w' ⟨h, l, rfl, hw, hl, hf, hb⟩
  refine ⟨?_, hb⟩
  have hf2 : val h l = 0 := hf.trans (by decide +kernel)
  have : h = 0 ∧ l = 0 := by unfold Word val at *; omega
  obtain ⟨rfl, rfl⟩ := this; rfl

theorem c_len (w : World) : Calls Try.prog 20 #[.agg #[.int .u64 1, .int .u64 0]] w fun e w' => e = .returned (.int .i64 65) ∧ Below w.heap.size w w' := by
  refine (len_any _ _ (by decide) (by decide) w).mono ?_
  rintro e w' ⟨n, rfl, hn, h1, h2, hb⟩
  refine ⟨?_, hb⟩
  have h2 := h2 (by decide)
  have e1 : val 1 0 = ((2 ^ 64 : Nat) : Int) := by decide +kernel
  rw [e1] at h1 h2
  have h1 : 2 ^ 64 < 2 ^ n := Int.ofNat_lt.1 h1
  have h2 : 2 ^ n ≤ 2 ^ 65 := by
    have : ((2 ^ n : Nat) : Int) ≤ ((2 ^ 65 : Nat) : Int) := Int.le_trans h2 (by decide +kernel)
    exact Int.ofNat_le.1 this
  have h1 := (Nat.pow_lt_pow_iff_right (by decide)).1 h1
  have h2 := (Nat.pow_le_pow_iff_right (by decide)).1 h2
  obtain rfl : n = 65 := by omega
  rfl

theorem c_div1 (w : World) : Calls Try.prog 26 #[.agg #[.int .u64 1, .int .u64 0], .int .u64 2] w fun e w' => e = .returned (.tuple #[.agg #[.int .u64 0, .int .u64 9223372036854775808], .int .u64 0, .int .i64 0]) ∧ Below w.heap.size w w' := by
  refine (div_any _ _ _ (by decide) (by decide) (by decide) (by decide) w).mono ?_
  rintro e w' ⟨h, l, r, rfl, hw, hl, hr, hf, hm, hb⟩
  refine ⟨?_, hb⟩
  have hf2 : val h l = 9223372036854775808 := hf.trans (by decide +kernel)
  have hm2 : r = 0 := hm.trans (by decide +kernel)
  have : h = 0 ∧ l = 9223372036854775808 := by unfold Word val at *; omega
  obtain ⟨rfl, rfl⟩ := this; rw [hm2]

theorem c_div2 (w : World) : Calls Try.prog 26 #[.agg #[.int .u64 0, .int .u64 7], .int .u64 2] w fun e w' => e = .returned (.tuple #[.agg #[.int .u64 0, .int .u64 3], .int .u64 1, .int .i64 0]) ∧ Below w.heap.size w w' := by
  refine (div_any _ _ _ (by decide) (by decide) (by decide) (by decide) w).mono ?_
  rintro e w' ⟨h, l, r, rfl, hw, hl, hr, hf, hm, hb⟩
  refine ⟨?_, hb⟩
  have hf2 : val h l = 3 := hf.trans (by decide +kernel)
  have hm2 : r = 1 := hm.trans (by decide +kernel)
  have : h = 0 ∧ l = 3 := by unfold Word val at *; omega
  obtain ⟨rfl, rfl⟩ := this; rw [hm2]

theorem c_div3 (w : World) : Calls Try.prog 26 #[.agg #[.int .u64 0, .int .u64 1], .int .u64 0] w fun e w' => e = .returned (.tuple #[.agg #[.int .u64 0, .int .u64 0], .int .u64 0, .int .i64 10]) ∧ Below w.heap.size w w' := by
  exact div_zero _ _ w

theorem c_root1 (w : World) : Calls Try.prog 29 #[.agg #[.int .u64 0, .int .u64 10]] w fun e w' => e = .returned (.tuple #[.int .u64 3, .bool false]) ∧ Below w.heap.size w w' := by
  refine (root_any _ _ (by decide) (by decide) w).mono ?_
  rintro e w' ⟨r, o, rfl, hw, h1, h2, ho, hb⟩
  refine ⟨?_, hb⟩
  obtain rfl : r = 3 := root_unique r 3 _ hw.1 (by decide) h1 h2 (by decide +kernel) (by decide +kernel)
  have ho2 : o = false := by
    have : (3 * 3 : Int) ≠ val 0 10 := by decide +kernel
    cases o; rfl; exact absurd (ho.1 rfl) this
  rw [ho2]

theorem c_root2 (w : World) : Calls Try.prog 29 #[.agg #[.int .u64 1, .int .u64 0]] w fun e w' => e = .returned (.tuple #[.int .u64 4294967296, .bool true]) ∧ Below w.heap.size w w' := by
  refine (root_any _ _ (by decide) (by decide) w).mono ?_
  rintro e w' ⟨r, o, rfl, hw, h1, h2, ho, hb⟩
  refine ⟨?_, hb⟩
  obtain rfl : r = 4294967296 := root_unique r 4294967296 _ hw.1 (by decide) h1 h2 (by decide +kernel) (by decide +kernel)
  have ho2 : o = true := by
    have : (4294967296 * 4294967296 : Int) = val 1 0 := by decide +kernel
    exact ho.2 this
  rw [ho2]

theorem c_times (w : World) : Calls Try.prog 31 #[.agg #[.int .u64 18446744073709551615, .int .u64 18446744073709551615], .int .u64 2] w fun e w' => e = .returned (.agg #[.int .u64 1, .int .u64 18446744073709551615, .int .u64 18446744073709551614]) ∧ Below w.heap.size w w' := by
  refine (times_any _ _ _ (by decide) (by decide) (by decide) w).mono ?_
  rintro e w' ⟨h, m, l, rfl, hh, hm, hl, hf, hb⟩
  refine ⟨?_, hb⟩
  have hf2 : val3 h m l = 680564733841876926926749214863536422910 := hf.trans (by decide +kernel)
  have : h = 1 ∧ m = 18446744073709551615 ∧ l = 18446744073709551614 := by unfold Word val3 at *; omega
  obtain ⟨rfl, rfl, rfl⟩ := this; rfl

theorem c_drop1 (w : World) : Calls Try.prog 32 #[.agg #[.int .u64 1, .int .u64 18446744073709551615, .int .u64 18446744073709551614], .int .i64 1] w fun e w' => e = .returned (.tuple #[.agg #[.int .u64 0, .int .u64 18446744073709551615, .int .u64 18446744073709551615], .bool false]) ∧ Below w.heap.size w w' := by
  refine (drop_any _ _ _ _ (by decide) (by decide) (by decide) (by decide) (by decide) w).mono ?_
  rintro e w' ⟨h, m, l, o, rfl, hh, hm, hl, hf, ho, hb⟩
  refine ⟨?_, hb⟩
  have hf2 : val3 h m l = 340282366920938463463374607431768211455 := hf.trans (by decide +kernel)
  have ho2 : o = false := by
    have : val3 1 18446744073709551615 18446744073709551614 % pw 1 = 0 := by decide +kernel
    exact ho.2 this
  have : h = 0 ∧ m = 18446744073709551615 ∧ l = 18446744073709551615 := by unfold Word val3 at *; omega
  obtain ⟨rfl, rfl, rfl⟩ := this; rw [ho2]

theorem c_drop2 (w : World) : Calls Try.prog 32 #[.agg #[.int .u64 1, .int .u64 0, .int .u64 0], .int .i64 200] w fun e w' => e = .returned (.tuple #[.agg #[.int .u64 0, .int .u64 0, .int .u64 0], .bool true]) ∧ Below w.heap.size w w' := by
  refine (drop_any _ _ _ _ (by decide) (by decide) (by decide) (by decide) (by decide) w).mono ?_
  rintro e w' ⟨h, m, l, o, rfl, hh, hm, hl, hf, ho, hb⟩
  refine ⟨?_, hb⟩
  have hf2 : val3 h m l = 0 := hf.trans (by decide +kernel)
  have ho2 : o = true := by
    have : val3 1 0 0 % pw 200 ≠ 0 := by decide +kernel
    cases o; exact absurd (ho.1 rfl) this; rfl
  have : h = 0 ∧ m = 0 ∧ l = 0 := by unfold Word val3 at *; omega
  obtain ⟨rfl, rfl, rfl⟩ := this; rw [ho2]

end Go.Proofs.Ytogldkjhcmlneaa
