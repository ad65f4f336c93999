/-
  math/bits.Div64 and wide.Div, for every argument.
-/
import Derived.Test.YtogldkjhcmlneaaW2
import Derived.Test.YtogldkjhcmlneaaW4
namespace Go.Proofs.Ytogldkjhcmlneaa
open Go.RowKit Go.Shelf

theorem and_low (x : Int) (h0 : 0 ≤ x) (h1 : x < 18446744073709551616) : bits .and .u64 x 4294967295 = x % 4294967296 := by
  obtain ⟨n, rfl⟩ := Int.eq_ofNat_of_zero_le h0
  have := u64_and_nat n 4294967295 (by omega) (by decide)
  rw [show (4294967295 : Int) = ((4294967295 : Nat) : Int) from rfl, this, show (4294967295 : Nat) = 2 ^ 32 - 1 from rfl, Nat.and_two_pow_sub_one_eq_mod]
  rfl

/-- The two steps. -/
theorem steps (u u1 u0 Y : Int) (hY : 0 < Y) :
    (u * 4294967296 + u1) / Y * 4294967296 + ((u * 4294967296 + u1) % Y * 4294967296 + u0) / Y = ((u * 4294967296 + u1) * 4294967296 + u0) / Y ∧
    ((u * 4294967296 + u1) % Y * 4294967296 + u0) % Y = ((u * 4294967296 + u1) * 4294967296 + u0) % Y := by
  generalize u * 4294967296 + u1 = n
  have h := Int.mul_ediv_add_emod n Y
  have e : n * 4294967296 + u0 = (n % Y * 4294967296 + u0) + Y * (n / Y * 4294967296) := by
    rw [← Int.mul_assoc]
    generalize Y * (n / Y) = z at *
    omega
  rw [e]
  exact ⟨by rw [Int.add_mul_ediv_left _ _ (by omega)]; omega, by rw [Int.add_mul_emod_self_left]⟩

theorem div64_any (hi lo y : Int) (h1 : Word hi) (h2 : Word lo) (h3 : Word y) (hlt : hi < y) (w : World) :
    Calls Try.prog 48 #[.int .u64 hi, .int .u64 lo, .int .u64 y] w fun e w' => e = .returned (.tuple #[.int .u64 (val hi lo / y), .int .u64 (val hi lo % y)]) ∧ ∃ n, w' = w.drewN n := by
  by_cases h0 : hi = 0
  · subst h0
    have e : val 0 lo = lo := by unfold val; omega
    rw [e]
    exact div64_small lo y h2 h3 hlt w
  have h0 : 0 < hi := by have := h1.1; omega
  obtain ⟨yn, rfl⟩ := Int.eq_ofNat_of_zero_le h3.1
  obtain ⟨l1, l2, l3⟩ := bitLen_bd yn (by have := h3.2; omega)
  have l2 := l2 (by omega)
  have l4 : 0 < Lib.bitLen yn := by
    rcases Nat.eq_zero_or_pos (Lib.bitLen yn) with h | h
    · rw [h] at l1; omega
    · exact h
  obtain ⟨s, hs⟩ : ∃ s : Int, 64 - (Lib.bitLen yn : Int) = s := ⟨_, rfl⟩
  have hs0 : 0 ≤ s := by omega
  have hs1 : s < 64 := by omega
  have hp := pw_pos s
  have hsp : pw s * ((2 ^ Lib.bitLen yn : Nat) : Int) = 18446744073709551616 := by
    have := pw_split s hs0 (by omega)
    rw [show (64 - s) = (Lib.bitLen yn : Int) by omega] at this
    exact this
  have y1 : (yn : Int) < ((2 ^ Lib.bitLen yn : Nat) : Int) := by exact Int.ofNat_lt.2 l1
  have y2 : ((2 ^ Lib.bitLen yn : Nat) : Int) ≤ 2 * (yn : Int) := by have := Int.ofNat_le.2 l2; omega
  generalize ((2 ^ Lib.bitLen yn : Nat) : Int) = b at *
  have Y1 : pw s * (yn : Int) < 18446744073709551616 := by rw [← hsp]; exact Int.mul_lt_mul_of_pos_left y1 hp
  have Y2 : 9223372036854775808 ≤ pw s * (yn : Int) := by
    have := Int.mul_le_mul_of_nonneg_left y2 (Int.le_of_lt hp)
    rw [hsp, ← Int.mul_assoc, Int.mul_comm (pw s) 2, Int.mul_assoc] at this
    omega
  obtain ⟨w1, w2⟩ := shl_words hi lo s h1 h2 hs0 (by omega)
  have hv : val hi lo < yn * 18446744073709551616 := by have := h2.2; unfold val; omega
  have hv0 : 0 ≤ val hi lo := (val_bd h1 h2).1
  have hvp0 : 0 ≤ val hi lo * pw s := Int.mul_nonneg hv0 (Int.le_of_lt hp)
  have hvp : val hi lo * pw s < pw s * yn * 18446744073709551616 := by
    have := Int.mul_lt_mul_of_pos_right hv hp
    rw [Int.mul_comm (pw s), Int.mul_assoc, Int.mul_comm (pw s), ← Int.mul_assoc]; exact this
  have q1 : val hi lo / (yn : Int) = (val hi lo * pw s) / (pw s * yn) := by
    rw [Int.mul_comm (pw s) yn, Int.mul_ediv_mul_of_pos_left _ _ hp]
  have q2 : val hi lo % (yn : Int) = (val hi lo * pw s) % (pw s * yn) / pw s := by
    rw [Int.mul_comm (pw s) yn, Int.mul_comm (val hi lo), Int.mul_comm (yn : Int) (pw s), Int.mul_emod_mul_of_pos _ _ hp, Int.mul_ediv_cancel_left _ (Int.ne_of_gt hp)]
  have hY : IntKind.u64.wrap ((yn : Int) * pw s) = pw s * yn := by
    rw [IntKind.wrap_u64, Int.mul_comm, Int.emod_eq_of_lt (by omega) Y1]
  generalize hYY : pw s * (yn : Int) = Y at *
  have m1 : val hi lo * pw s % 340282366920938463463374607431768211456 = val hi lo * pw s := Int.emod_eq_of_lt hvp0 (by omega)
  rw [m1] at w1 w2
  rw [q1, q2]
  generalize hN : val hi lo * pw s = n at *
  obtain ⟨u, hu⟩ : ∃ u, n / 18446744073709551616 = u := ⟨_, rfl⟩
  obtain ⟨L, hL⟩ : ∃ L, n % 18446744073709551616 = L := ⟨_, rfl⟩
  rw [hu] at w1
  rw [hL] at w2
  have hn : n = (u * 4294967296 + L / 4294967296) * 4294967296 + L % 4294967296 := by omega
  have hYd : Y / 4294967296 * 4294967296 + Y % 4294967296 = Y := by omega
  have d : Digits u (L / 4294967296) (Y / 4294967296) (Y % 4294967296) := ⟨by omega, by omega, by omega, by omega, by omega, by omega, by omega, by omega⟩
  obtain ⟨g1, g2⟩ := guess_first d
  have hqlt := d.lt
  have st := steps u (L / 4294967296) (L % 4294967296) Y (by omega)
  rw [← hn] at st
  have em := Int.mul_ediv_add_emod (u * 4294967296 + L / 4294967296) Y
  have e0 := Int.emod_nonneg (u * 4294967296 + L / 4294967296) (by omega : Y ≠ 0)
  have e1 := Int.emod_lt_of_pos (u * 4294967296 + L / 4294967296) (by omega : 0 < Y)
  have Q0 : 0 ≤ (u * 4294967296 + L / 4294967296) / Y := Int.ediv_nonneg (by omega) (by omega)
  rw [hYd] at hqlt
  have hvv : IntKind.u64.wrap (IntKind.u64.wrap (IntKind.u64.wrap (u * 4294967296) + L / 4294967296) - IntKind.u64.wrap ((u * 4294967296 + L / 4294967296) / Y * Y)) = (u * 4294967296 + L / 4294967296) % Y := by
    rw [IntKind.wrap_u64, IntKind.wrap_u64, IntKind.wrap_u64, IntKind.wrap_u64, Int.mul_comm ((u * 4294967296 + L / 4294967296) / Y) Y]
    generalize Y * ((u * 4294967296 + L / 4294967296) / Y) = z at *
    omega
  generalize hv2 : (u * 4294967296 + L / 4294967296) % Y = v at *
  have d' : Digits v (L % 4294967296) (Y / 4294967296) (Y % 4294967296) := ⟨by omega, by omega, by omega, by omega, by omega, by omega, by omega, by omega⟩
  obtain ⟨g1', g2'⟩ := guess_first d'
  have hqlt' := d'.lt
  rw [hYd] at hqlt'
  have em' := Int.mul_ediv_add_emod (v * 4294967296 + L % 4294967296) Y
  have e0' := Int.emod_nonneg (v * 4294967296 + L % 4294967296) (by omega : Y ≠ 0)
  have e1' := Int.emod_lt_of_pos (v * 4294967296 + L % 4294967296) (by omega : 0 < Y)
  have Q0' : 0 ≤ (v * 4294967296 + L % 4294967296) / Y := Int.ediv_nonneg (by omega) (by omega)
  have hA : IntKind.u64.wrap (IntKind.u64.wrap ((u * 4294967296 + L / 4294967296) / Y * 4294967296) + (v * 4294967296 + L % 4294967296) / Y) = n / Y := by
    rw [← st.1, IntKind.wrap_u64, IntKind.wrap_u64]
    generalize (u * 4294967296 + L / 4294967296) / Y = a at *
    generalize (v * 4294967296 + L % 4294967296) / Y = c at *
    omega
  have hR : IntKind.u64.wrap (IntKind.u64.wrap (IntKind.u64.wrap (v * 4294967296) + L % 4294967296) - IntKind.u64.wrap ((v * 4294967296 + L % 4294967296) / Y * Y)) / pw s = n % Y / pw s := by
    rw [← st.2]
    congr 1
    rw [IntKind.wrap_u64, IntKind.wrap_u64, IntKind.wrap_u64, IntKind.wrap_u64, Int.mul_comm ((v * 4294967296 + L % 4294967296) / Y) Y]
    generalize Y * ((v * 4294967296 + L % 4294967296) / Y) = z at *
    omega
  have k1 : 0 < Y := by omega
  have k2 : Y < 18446744073709551616 := by omega
  have k3 : 0 ≤ u ∧ u < 18446744073709551616 := by omega
  have k4 : 0 ≤ L ∧ L < 18446744073709551616 := by omega
  have k5 := d.b1; have k6 := d.b2; have k7 := d.b3; have k8 := d.b4; have k9 := d.b7; have k10 := d.b8; have k11 := d'.b7; have k12 := d'.b8
  refine div64_big hi lo yn s Y (Y / 4294967296) (Y % 4294967296) u L (L / 4294967296) (L % 4294967296) h1 h2 h3 hlt h0 hs0 hs1 hs (by rw [pw_eq]; exact hY) rfl (and_low Y (by omega) k2) (by rw [pw_eq, pw_eq]; exact w1) (by rw [pw_eq]; exact w2) rfl (and_low L k4.1 k4.2)
    k5 k6 k7 k8 k3.1 k3.2 k9 k10 k11 k12 _ _ _ rfl g2 (by rw [hYd]; exact rfl) g1 d v hvv e0 (by omega) _ _ _ rfl g2' (by rw [hYd]; exact rfl) g1' d' _ _ hA ?_ w
  rw [pw_eq]; exact hR
end Go.Proofs.Ytogldkjhcmlneaa
