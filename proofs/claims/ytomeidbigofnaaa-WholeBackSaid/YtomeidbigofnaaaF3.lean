/-
  The walks of package float, on: packed, nearest, Join.
-/
import Derived.Test.YtomeidbigofnaaaF2
namespace Go.Proofs.Ytomeidbigofnaaa
open Go.RowKit Go.Shelf

/-! ### The closure that tells the lowest bits -/
theorem mask_var (m n : Int) (h : Word m) (hn : 0 ≤ n) : bits .and .u64 m (IntKind.u64.wrap (IntKind.u64.wrap (2 ^ min n.toNat 64) - 1)) = m % pw n := by
  obtain ⟨k, rfl⟩ := Int.eq_ofNat_of_zero_le h.1
  have hk : k < 18446744073709551616 := by have := h.2; omega
  obtain ⟨j, rfl⟩ := Int.eq_ofNat_of_zero_le hn
  have ep : pw (j : Int) = ((2 ^ j : Nat) : Int) := rfl
  rw [Int.toNat_natCast, ep]
  by_cases hj : j < 64
  · have e2 : 2 ^ j < 18446744073709551616 := by
      have := Nat.pow_lt_pow_right (a := 2) (by decide) hj
      exact this
    have e0 : 0 < 2 ^ j := Nat.two_pow_pos j
    have e1 : IntKind.u64.wrap (IntKind.u64.wrap (2 ^ min j 64) - 1) = ((2 ^ j - 1 : Nat) : Int) := by
      have e : (2 : Int) ^ j = ((2 ^ j : Nat) : Int) := (Int.natCast_pow 2 j).symm
      rw [Nat.min_eq_left (by omega), e, IntKind.wrap_u64, IntKind.wrap_u64]
      generalize 2 ^ j = q at *
      omega
    rw [e1]
    exact and_mask k j (by omega) (by omega) (by omega)
  · have e1 : IntKind.u64.wrap (IntKind.u64.wrap (2 ^ min j 64) - 1) = ((2 ^ 64 - 1 : Nat) : Int) := by
      rw [Nat.min_eq_right (by omega)]; decide
    rw [e1, and_mask k 64 (by decide) (by omega) (by omega)]
    have e2 : 2 ^ 64 ≤ 2 ^ j := Nat.pow_le_pow_right (by decide) (by omega)
    have e3 : (2 : Nat) ^ 64 = 18446744073709551616 := rfl
    rw [Int.emod_eq_of_lt (by omega) (by rw [e3]; omega), Int.emod_eq_of_lt (by omega) (by generalize 2 ^ j = q at *; omega)]

set_option maxHeartbeats 400000 in
theorem low_bits (n m : Int) (a : Addr) (h : Word m) (hn : 0 ≤ n) (w : World) (hc : w.cell? a = some (.int .u64 m)) :
    Calls Try.prog 70 #[.int .i64 n, .pointer (some a)] w fun e w' => e = .returned (.int .u64 (m % pw n)) ∧ ∃ k, w' = w.drewN k := by
  have hm := mask_var m n h hn
  generalize m % pw n = t at *
  clear h
  go_enter Try.func70, Try.ntmps70
  go_wp2
  go_quiet (fail)
  go_wp2
  go_ret
  exact ⟨rfl, _, rfl⟩

/-! ### packed -/
theorem shr_var64 (m n : Int) (h : Word m) (hn : 0 ≤ n) : m / 2 ^ min n.toNat 64 = m / pw n := by
  obtain ⟨j, rfl⟩ := Int.eq_ofNat_of_zero_le hn
  have ep : pw (j : Int) = ((2 ^ j : Nat) : Int) := rfl
  have e : ∀ i : Nat, (2 : Int) ^ i = ((2 ^ i : Nat) : Int) := fun i => (Int.natCast_pow 2 i).symm
  rw [Int.toNat_natCast, ep, e]
  by_cases hj : j ≤ 64
  · rw [Nat.min_eq_left hj]
  · rw [Nat.min_eq_right (by omega)]
    have e2 : 2 ^ 64 ≤ 2 ^ j := Nat.pow_le_pow_right (by decide) (by omega)
    have e3 : (2 : Nat) ^ 64 = 18446744073709551616 := rfl
    rw [Int.ediv_eq_zero_of_lt h.1 (by have := h.2; rw [e3]; omega), Int.ediv_eq_zero_of_lt h.1 (by have := h.2; generalize 2 ^ j = q at *; omega)]
theorem and_one (x : Int) (h0 : 0 ≤ x) (h1 : x < 18446744073709551616) : bits .and .u64 x 1 = x % 2 := and_mask x 1 (by decide) h0 h1

/-- What is kept of m behind the cut, rounded. -/
def roundI (m cut : Int) (more : Bool) : Int :=
  if ((m % pw cut != m % pw (cut - 1)) && (more || (m % pw (cut - 1) != 0) || (m / pw cut % 2 != 0))) then m / pw cut + 1 else m / pw cut
def packI (m cut : Int) (more : Bool) : Int := if cut ≤ 0 then IntKind.u64.wrap (m * 2 ^ min (-cut).toNat 64) else roundI m cut more
/-- What packed answers. -/
def WordPost (v : Int) (w : World) (e : Ending) (w' : World) : Prop := e = .returned (.int .u64 v) ∧ Below w.heap.size w w'

set_option maxHeartbeats 4000000 in
theorem packed_any (m cut : Int) (more : Bool) (h : Word m) (hc1 : -9223372036854775807 ≤ cut) (hc2 : cut ≤ 9223372036854775807) (w : World) :
    Calls Try.prog 68 #[.int .u64 m, .int .i64 cut, .bool more] w (WordPost (packI m cut more) w) := by
  by_cases c0 : cut ≤ 0
  · have e : Hid (IntKind.u64.wrap (m * 2 ^ min (-cut).toNat 64) = packI m cut more) := by unfold Hid packI; rw [if_pos c0]
    have n1 : 0 ≤ -cut := by omega
    go_enter Try.func68, Try.ntmps68
    go_wp2
    go_ret
    exact ⟨ret_u64 e.out, (Below.refl _ _).alloc (Nat.le_refl _) _⟩
  · have hk := shr_var64 m cut h (by omega)
    obtain ⟨kp, hkp⟩ : ∃ z, m / pw cut = z := ⟨_, rfl⟩
    rw [hkp] at hk
    have kp0 : 0 ≤ kp := by rw [← hkp]; exact Int.ediv_nonneg h.1 (Int.le_of_lt (pw_pos _))
    have kp1 : kp < 9223372036854775808 := by
      rw [← hkp]
      refine Int.ediv_lt_of_lt_mul (pw_pos _) ?_
      have : pw cut = pw (cut - 1) * 2 := by
        have := pw_add (cut - 1) 1 (by omega) (by decide)
        rw [show cut - 1 + 1 = cut by omega, show pw 1 = 2 from rfl] at this; exact this
      have p := pw_pos (cut - 1)
      have := h.2
      omega
    have ha := and_one kp kp0 (by omega)
    obtain ⟨t1, ht1⟩ : ∃ z, m % pw cut = z := ⟨_, rfl⟩
    obtain ⟨t2, ht2⟩ : ∃ z, m % pw (cut - 1) = z := ⟨_, rfl⟩
    have L1 : Hid (∀ (a : Addr) (w : World), w.cell? a = some (.int .u64 m) → Calls Try.prog 70 #[.int .i64 cut, .pointer (some a)] w fun e w' => e = .returned (.int .u64 t1) ∧ ∃ k, w' = w.drewN k) := fun a w hc => by
      rw [← ht1]; exact low_bits cut m a h (by omega) w hc
    have L2 : Hid (∀ (a : Addr) (w : World), w.cell? a = some (.int .u64 m) → Calls Try.prog 70 #[.int .i64 (cut - 1), .pointer (some a)] w fun e w' => e = .returned (.int .u64 t2) ∧ ∃ k, w' = w.drewN k) := fun a w hc => by
      rw [← ht2]; exact low_bits (cut - 1) m a h (by omega) w hc
    have e : Hid (∀ z, z = (if ((t1 != t2) && (more || (t2 != 0) || (kp % 2 != 0))) then kp + 1 else kp) → Ending.returned (Value.int .u64 z) = .returned (.int .u64 (packI m cut more))) := fun z hz => by
      rw [hz]; unfold packI roundI; rw [if_neg c0, ht1, ht2, hkp]
    clear hkp ht1 ht2 h
    have cp : 0 ≤ cut := by omega
    have kp2 : 0 ≤ kp % 2 := by omega
    have key : ∀ z : Int, Hid (Ending.returned (Value.int .u64 z) = .returned (.int .u64 (packI m cut more))) → ∀ w' : World, Below w.heap.size w w' → WordPost (packI m cut more) w (.returned (.int .u64 z)) w' := fun z hz w' hb => ⟨hz.out, hb⟩
    have Key := Lib.hid key; clear key
    rcases Bool.eq_false_or_eq_true (t1 != t2) with k1 | k1
    · cases more
      · rcases Bool.eq_false_or_eq_true (t2 != 0) with k2 | k2
        · have hz := Lib.hid (e.out (kp + 1) (by rw [k1, k2]; rfl)); clear e
          go_enter Try.func68, Try.ntmps68
          go_wp2_with fail
          refine (L1.out _ _ ?_).mono ?_
          · simp [go_sem]
          rintro e1 w1 ⟨rfl, j1, rfl⟩
          go_wp2_with fail
          refine (L2.out _ _ ?_).mono ?_
          · simp [go_sem]
          rintro e2 w2 ⟨rfl, j2, rfl⟩
          go_wp2_with fail
          refine (L2.out _ _ ?_).mono ?_
          · simp [go_sem]
          rintro e2 w2 ⟨rfl, j3, rfl⟩
          go_wp2_with fail
          go_ret
          refine Key.out _ hz _ ?_
          repeat (first | exact (Below.refl _ _).alloc (Nat.le_refl _) _ | refine below_drewN ?_ _)
        · rcases Bool.eq_false_or_eq_true (kp % 2 != 0) with k3 | k3
          · have hz := Lib.hid (e.out (kp + 1) (by rw [k1, k2, k3]; rfl)); clear e
            go_enter Try.func68, Try.ntmps68
            go_wp2_with fail
            refine (L1.out _ _ ?_).mono ?_
            · simp [go_sem]
            rintro e1 w1 ⟨rfl, j1, rfl⟩
            go_wp2_with fail
            refine (L2.out _ _ ?_).mono ?_
            · simp [go_sem]
            rintro e2 w2 ⟨rfl, j2, rfl⟩
            go_wp2_with fail
            refine (L2.out _ _ ?_).mono ?_
            · simp [go_sem]
            rintro e2 w2 ⟨rfl, j3, rfl⟩
            go_wp2_with fail
            go_ret
            refine Key.out _ hz _ ?_
            repeat (first | exact (Below.refl _ _).alloc (Nat.le_refl _) _ | refine below_drewN ?_ _)
          · have hz := Lib.hid (e.out kp (by rw [k1, k2, k3]; rfl)); clear e
            go_enter Try.func68, Try.ntmps68
            go_wp2_with fail
            refine (L1.out _ _ ?_).mono ?_
            · simp [go_sem]
            rintro e1 w1 ⟨rfl, j1, rfl⟩
            go_wp2_with fail
            refine (L2.out _ _ ?_).mono ?_
            · simp [go_sem]
            rintro e2 w2 ⟨rfl, j2, rfl⟩
            go_wp2_with fail
            refine (L2.out _ _ ?_).mono ?_
            · simp [go_sem]
            rintro e2 w2 ⟨rfl, j3, rfl⟩
            go_wp2_with fail
            go_ret
            refine Key.out _ hz _ ?_
            repeat (first | exact (Below.refl _ _).alloc (Nat.le_refl _) _ | refine below_drewN ?_ _)
      · have hz := Lib.hid (e.out (kp + 1) (by rw [k1]; rfl)); clear e
        go_enter Try.func68, Try.ntmps68
        go_wp2_with fail
        refine (L1.out _ _ ?_).mono ?_
        · simp [go_sem]
        rintro e1 w1 ⟨rfl, j1, rfl⟩
        go_wp2_with fail
        refine (L2.out _ _ ?_).mono ?_
        · simp [go_sem]
        rintro e2 w2 ⟨rfl, j2, rfl⟩
        go_wp2_with fail
        go_ret
        refine Key.out _ hz _ ?_
        repeat (first | exact (Below.refl _ _).alloc (Nat.le_refl _) _ | refine below_drewN ?_ _)
    · have hz := Lib.hid (e.out kp (by rw [k1]; rfl)); clear e
      go_enter Try.func68, Try.ntmps68
      go_wp2_with fail
      refine (L1.out _ _ ?_).mono ?_
      · simp [go_sem]
      rintro e1 w1 ⟨rfl, j1, rfl⟩
      go_wp2_with fail
      refine (L2.out _ _ ?_).mono ?_
      · simp [go_sem]
      rintro e2 w2 ⟨rfl, j2, rfl⟩
      go_wp2_with fail
      go_ret
      refine Key.out _ hz _ ?_
      repeat (first | exact (Below.refl _ _).alloc (Nat.le_refl _) _ | refine below_drewN ?_ _)
end Go.Proofs.Ytomeidbigofnaaa
