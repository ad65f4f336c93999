/-
  The walk of math/bits.Div64.
-/
import Derived.Test.YtogldkjhcmlneaaW1
import Derived.Deep.DeepCutAuto
import Derived.Deep.CutBlock
namespace Go.Proofs.Ytogldkjhcmlneaa
open Go.RowKit Go.Shelf

set_option maxHeartbeats 400000 in
theorem div64_small (lo y : Int) (h2 : Word lo) (h3 : Word y) (hy : 0 < y) (w : World) :
    Calls Try.prog 48 #[.int .u64 0, .int .u64 lo, .int .u64 y] w fun e w' => e = .returned (.tuple #[.int .u64 (lo / y), .int .u64 (lo % y)]) ∧ ∃ n, w' = w.drewN n := by
  obtain ⟨a1, a2⟩ := h2; obtain ⟨b1, b2⟩ := h3
  have hy0 : (y == 0) = false := by simp; omega
  go_enter Try.func48, Try.ntmps48
  go_wp2
  go_quiet (fail)
  go_wp2
  go_ret2
  exact ⟨rfl, nq, rfl⟩

/-- What holds of a guess q and its rest r, at each round's head. -/
structure Guess (u u1 y1 y0 q r : Int) : Prop where
  q0 : 0 ≤ q
  q1 : q ≤ 4294967297
  r0 : 0 ≤ r
  r1 : r < 4294967296
  eq : q * y1 + r = u
  le : (u * 4294967296 + u1) / (y1 * 4294967296 + y0) ≤ q

/-- What the numbers are. -/
structure Digits (u u1 y1 y0 : Int) : Prop where
  b1 : 2147483648 ≤ y1
  b2 : y1 < 4294967296
  b3 : 0 ≤ y0
  b4 : y0 < 4294967296
  b5 : 0 ≤ u
  b6 : u < y1 * 4294967296 + y0
  b7 : 0 ≤ u1
  b8 : u1 < 4294967296

theorem Digits.lt {u u1 y1 y0 : Int} (d : Digits u u1 y1 y0) : (u * 4294967296 + u1) / (y1 * 4294967296 + y0) < 4294967296 := by
  obtain ⟨b1, b2, b3, b4, b5, b6, b7, b8⟩ := d
  apply Int.ediv_lt_of_lt_mul (by omega)
  omega
theorem guess_step {u u1 y1 y0 q r : Int} (d : Digits u u1 y1 y0) (g : Guess u u1 y1 y0 q r) (hc : 4294967296 ≤ q ∨ 4294967296 * r + u1 < q * y0) : (u * 4294967296 + u1) / (y1 * 4294967296 + y0) ≤ q - 1 := by
  have hl := d.lt
  rcases hc with hc | hc
  · omega
  · have : u * 4294967296 + u1 < q * (y1 * 4294967296 + y0) := by
      rw [← g.eq, Int.mul_add, ← Int.mul_assoc, Int.add_mul]; omega
    have := Int.ediv_lt_of_lt_mul (by have := d.b1; have := d.b3; omega) this
    omega
theorem guess_eq {u u1 y1 y0 q r : Int} (d : Digits u u1 y1 y0) (he : q * y1 + r = u) (hle : (u * 4294967296 + u1) / (y1 * 4294967296 + y0) ≤ q) (hc : q * y0 ≤ 4294967296 * r + u1) : q = (u * 4294967296 + u1) / (y1 * 4294967296 + y0) := by
  have h : q * (y1 * 4294967296 + y0) ≤ u * 4294967296 + u1 := by
    rw [← he, Int.mul_add, ← Int.mul_assoc, Int.add_mul]; omega
  have := (Int.le_ediv_iff_mul_le (by have := d.b1; have := d.b3; omega)).2 h
  omega
theorem guess_next {u u1 y1 y0 q r : Int} (d : Digits u u1 y1 y0) (g : Guess u u1 y1 y0 q r) (hc : 4294967296 ≤ q ∨ 4294967296 * r + u1 < q * y0) (hr : r + y1 < 4294967296) : Guess u u1 y1 y0 (q - 1) (r + y1) := by
  have h1 := guess_step d g hc
  obtain ⟨b1, b2, b3, b4, b5, b6, b7, b8⟩ := d
  have h0 : 0 ≤ (u * 4294967296 + u1) / (y1 * 4294967296 + y0) := Int.ediv_nonneg (by omega) (by omega)
  obtain ⟨g0, g1, g2, g3, g4, g5⟩ := g
  exact ⟨by omega, by omega, by omega, hr, by rw [Int.sub_mul]; omega, h1⟩
theorem guess_break {u u1 y1 y0 q r : Int} (d : Digits u u1 y1 y0) (g : Guess u u1 y1 y0 q r) (hc : 4294967296 ≤ q ∨ 4294967296 * r + u1 < q * y0) (hr : 4294967296 ≤ r + y1) : q - 1 = (u * 4294967296 + u1) / (y1 * 4294967296 + y0) := by
  have h1 := guess_step d g hc
  refine guess_eq (r := r + y1) d (by rw [Int.sub_mul]; have := g.eq; omega) h1 ?_
  have k : (q - 1) * y0 ≤ 4294967296 * y0 := Int.mul_le_mul_of_nonneg_right (by have := g.q1; omega) d.b3
  have := d.b4; have := d.b7; omega
/-- The guess at the start. -/
theorem guess_first {u u1 y1 y0 : Int} (d : Digits u u1 y1 y0) : Guess u u1 y1 y0 (u / y1) (u - u / y1 * y1) ∧ IntKind.u64.wrap (u - IntKind.u64.wrap (u / y1 * y1)) = u - u / y1 * y1 := by
  obtain ⟨b1, b2, b3, b4, b5, b6, b7, b8⟩ := d
  have e := Int.mul_ediv_add_emod u y1
  have m0 := Int.emod_nonneg u (by omega : y1 ≠ 0)
  have m1 := Int.emod_lt_of_pos u (by omega : 0 < y1)
  have q0 : 0 ≤ u / y1 := Int.ediv_nonneg b5 (by omega)
  rw [Int.mul_comm] at e
  have h : u / y1 < 4294967298 := Int.ediv_lt_of_lt_mul (by omega) (by omega)
  have hle : (u * 4294967296 + u1) / (y1 * 4294967296 + y0) ≤ u / y1 := by
    have hy : 0 < y1 * 4294967296 + y0 := by omega
    rw [Int.le_ediv_iff_mul_le (by omega)]
    have k := Int.ediv_mul_le (u * 4294967296 + u1) (b := y1 * 4294967296 + y0) (by omega)
    have z : 0 ≤ (u * 4294967296 + u1) / (y1 * 4294967296 + y0) := Int.ediv_nonneg (by omega) (by omega)
    generalize (u * 4294967296 + u1) / (y1 * 4294967296 + y0) = Q at *
    rw [Int.mul_add, ← Int.mul_assoc] at k
    have z2 : 0 ≤ Q * y0 := Int.mul_nonneg z b3
    omega
  refine ⟨⟨q0, by omega, by omega, by omega, by omega, hle⟩, ?_⟩
  rw [IntKind.wrap_u64, IntKind.wrap_u64]
  generalize u / y1 * y1 = x at *
  omega
theorem guess_t {u u1 y1 y0 q r : Int} (d : Digits u u1 y1 y0) (g : Guess u u1 y1 y0 q r) : IntKind.u64.wrap (q * y0) = q * y0 := by
  rw [IntKind.wrap_u64]
  have h0 := Int.mul_nonneg g.q0 d.b3
  have h1 : q * y0 ≤ 4294967297 * 4294967295 := Int.mul_le_mul g.q1 (by have := d.b4; omega) d.b3 (by decide)
  omega

theorem lz64 (x : Int) (w : World) (h0 : 0 ≤ x) (h1 : x ≤ 18446744073709551615) :
    Calls Try.prog 63 #[.int .u64 x] w fun e w' => e = .returned (.int .i64 (64 - (Lib.bitLen x.toNat : Int))) ∧ w = w' :=
  (Try.bits_LeadingZeros64 x w h0 h1).mono fun _ _ h => ⟨h.1, h.2.symm⟩

set_option maxHeartbeats 2000000 in
theorem div64_big (hi lo y s Y y1 y0 u L u1 u0 : Int) (h1 : Word hi) (h2 : Word lo) (h3 : Word y) (hlt : hi < y) (h0 : 0 < hi) (hs0 : 0 ≤ s) (hs1 : s < 64) (hs : 64 - (Lib.bitLen y.toNat : Int) = s)
    (hY : IntKind.u64.wrap (y * 2 ^ s.toNat) = Y) (hy1 : Y / 4294967296 = y1) (hy0 : bits .and .u64 Y 4294967295 = y0)
    (hu : bits .or .u64 (IntKind.u64.wrap (hi * 2 ^ s.toNat)) (lo / 2 ^ (64 - s).toNat) = u) (hL : IntKind.u64.wrap (lo * 2 ^ s.toNat) = L) (hu1 : L / 4294967296 = u1) (hu0 : bits .and .u64 L 4294967295 = u0)
    (b1 : 2147483648 ≤ y1) (b2 : y1 < 4294967296) (b3 : 0 ≤ y0) (b4 : y0 < 4294967296) (b5 : 0 ≤ u) (b6 : u < 18446744073709551616) (b7 : 0 ≤ u1) (b8 : u1 < 4294967296) (b9 : 0 ≤ u0) (b10 : u0 < 4294967296)
    (q r Q : Int) (hq : u / y1 = q) (hr : IntKind.u64.wrap (u - IntKind.u64.wrap (q * y1)) = r) (hQ : Hid ((u * 4294967296 + u1) / (y1 * 4294967296 + y0) = Q)) (hg : Hid (Guess u u1 y1 y0 q r)) (hd : Hid (Digits u u1 y1 y0))
    (v : Int) (hv : IntKind.u64.wrap (IntKind.u64.wrap (IntKind.u64.wrap (u * 4294967296) + u1) - IntKind.u64.wrap (Q * Y)) = v) (b11 : 0 ≤ v) (b12 : v < 18446744073709551616)
    (q' r' Q' : Int) (hq' : v / y1 = q') (hr' : IntKind.u64.wrap (v - IntKind.u64.wrap (q' * y1)) = r') (hQ' : Hid ((v * 4294967296 + u0) / (y1 * 4294967296 + y0) = Q')) (hg' : Hid (Guess v u0 y1 y0 q' r')) (hd' : Hid (Digits v u0 y1 y0))
    (A R : Int) (hA : IntKind.u64.wrap (IntKind.u64.wrap (Q * 4294967296) + Q') = A) (hR : IntKind.u64.wrap (IntKind.u64.wrap (IntKind.u64.wrap (v * 4294967296) + u0) - IntKind.u64.wrap (Q' * Y)) / 2 ^ s.toNat = R)
    (w : World) :
    Calls Try.prog 48 #[.int .u64 hi, .int .u64 lo, .int .u64 y] w fun e w' => e = .returned (.tuple #[.int .u64 A, .int .u64 R]) ∧ ∃ n, w' = w.drewN n := by
  obtain ⟨a1, a2⟩ := h1; obtain ⟨d1, d2⟩ := h2; obtain ⟨c1, c2⟩ := h3
  have hyy : (y == 0) = false := by simp; omega
  have hhi : (hi == 0) = false := by simp; omega
  have c3 : y ≤ 18446744073709551615 := by omega
  go_enter Try.func48, Try.ntmps48
  go_upto_block 0 with ((go_at_call 63; refine (lz64 y _ c1 c3).mono ?_; rintro e w1 ⟨rfl, rfl⟩))
  simp only [hq]
  go_cut [15] (fun v wx => v = .int .u64 Q ∧ w = wx)
  case first =>
    go_wp2_with fail
    go_loop [15, 16] (fun v t => ∃ q r : Int, v = .int .u64 q ∧ t = .int .u64 r ∧ Guess u u1 y1 y0 q r) (fun v _ => (intOf v).toNat)
    case atStart => exact ⟨q, r, rfl, rfl, hg.out⟩
    case round =>
      obtain ⟨q, r, rfl, rfl, hgg⟩ := hrel
      have ⟨g0, g1, g2, g3, _, _⟩ := hgg
      obtain ⟨t, ht⟩ : ∃ t, IntKind.u64.wrap (q * y0) = t := ⟨_, rfl⟩
      have HT : Hid (t = q * y0) := by rw [← ht]; exact guess_t hd.out hgg
      have HG := Lib.hid hgg; clear hgg
      by_cases k1 : 4294967296 ≤ q
      · by_cases k2 : 4294967296 ≤ r + y1
        · go_wp2
          go_meet
          exact ⟨by rw [guess_break hd.out HG.out (.inl k1) k2, hQ.out], rfl⟩
        · go_wp2
          go_round
          case rel => exact ⟨q - 1, r + y1, rfl, rfl, guess_next hd.out HG.out (.inl k1) (by omega)⟩
          case measure => simp [intOf]; omega
      · by_cases k3 : 4294967296 * r + u1 < t
        · have hc : Hid (4294967296 ≤ q ∨ 4294967296 * r + u1 < q * y0) := .inr (by rw [← HT.out]; exact k3)
          by_cases k4 : q = 0
          · exfalso
            have := guess_step hd.out HG.out hc.out
            have h0 : 0 ≤ (u * 4294967296 + u1) / (y1 * 4294967296 + y0) := Int.ediv_nonneg (by omega) (by omega)
            omega
          by_cases k2 : 4294967296 ≤ r + y1
          · go_wp2
            go_meet
            exact ⟨by rw [guess_break hd.out HG.out hc.out k2, hQ.out], rfl⟩
          · go_wp2
            go_round
            case rel => exact ⟨q - 1, r + y1, rfl, rfl, guess_next hd.out HG.out hc.out (by omega)⟩
            case measure => simp [intOf]; omega
        · go_wp2
          go_meet
          exact ⟨by rw [guess_eq hd.out HG.out.eq HG.out.le (by rw [← HT.out]; omega), hQ.out], rfl⟩
  case rest =>
    obtain ⟨rfl, rfl⟩ := hcut
    go_upto_block 2 with fail
    simp only [hq']
    go_cut [18] (fun v wx => v = .int .u64 Q' ∧ w = wx)
    case first =>
      go_wp2_with fail
      go_loop [18, 16] (fun x t => ∃ q r : Int, x = .int .u64 q ∧ t = .int .u64 r ∧ Guess v u0 y1 y0 q r) (fun x _ => (intOf x).toNat)
      case atStart => exact ⟨q', r', rfl, rfl, hg'.out⟩
      case round =>
        obtain ⟨q, r, rfl, rfl, hgg⟩ := hrel
        have ⟨g0, g1, g2, g3, _, _⟩ := hgg
        obtain ⟨t, ht⟩ : ∃ t, IntKind.u64.wrap (q * y0) = t := ⟨_, rfl⟩
        have HT : Hid (t = q * y0) := by rw [← ht]; exact guess_t hd'.out hgg
        have HG := Lib.hid hgg; clear hgg
        by_cases k1 : 4294967296 ≤ q
        · by_cases k2 : 4294967296 ≤ r + y1
          · go_wp2
            go_meet
            exact ⟨by rw [guess_break hd'.out HG.out (.inl k1) k2, hQ'.out], rfl⟩
          · go_wp2
            go_round
            case rel => exact ⟨q - 1, r + y1, rfl, rfl, guess_next hd'.out HG.out (.inl k1) (by omega)⟩
            case measure => simp [intOf]; omega
        · by_cases k3 : 4294967296 * r + u0 < t
          · have hc : Hid (4294967296 ≤ q ∨ 4294967296 * r + u0 < q * y0) := .inr (by rw [← HT.out]; exact k3)
            by_cases k4 : q = 0
            · exfalso
              have := guess_step hd'.out HG.out hc.out
              have h0 : 0 ≤ (v * 4294967296 + u0) / (y1 * 4294967296 + y0) := Int.ediv_nonneg (by omega) (by omega)
              omega
            by_cases k2 : 4294967296 ≤ r + y1
            · go_wp2
              go_meet
              exact ⟨by rw [guess_break hd'.out HG.out hc.out k2, hQ'.out], rfl⟩
            · go_wp2
              go_round
              case rel => exact ⟨q - 1, r + y1, rfl, rfl, guess_next hd'.out HG.out hc.out (by omega)⟩
              case measure => simp [intOf]; omega
          · go_wp2
            go_meet
            exact ⟨by rw [guess_eq hd'.out HG.out.eq HG.out.le (by rw [← HT.out]; omega), hQ'.out], rfl⟩
    case rest =>
      obtain ⟨rfl, rfl⟩ := hcut
      go_wp2
      go_ret2
      exact ⟨by simp, 0, rfl⟩
end Go.Proofs.Ytogldkjhcmlneaa
