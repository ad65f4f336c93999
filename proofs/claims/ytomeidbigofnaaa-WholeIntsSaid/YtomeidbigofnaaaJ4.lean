/-
  The statement WholeInts, walked.
-/
import Derived.Test.YtomeidbigofnaaaJ3
import Derived.Test.YtomeidbigofnaaaH2
namespace Go.Proofs.Ytomeidbigofnaaa
open Go.RowKit Go.Shelf

set_option maxRecDepth 100000 in
set_option maxHeartbeats 4000000 in
theorem ints_any (x v y : Int) (h : Word x) (v0 : -9223372036854775808 ≤ v) (v1 : v ≤ 9223372036854775807) (_y0 : -9223372036854775808 ≤ y) (_y1 : y ≤ 9223372036854775807) (w : World) : Calls Try.prog 5 #[.int .u64 x, .int .i64 v, .int .i64 y] w (BoolPost true w) := by
  obtain ⟨V, k, A0, B0⟩ := to_both x y h
  have A := Lib.hid A0
  have B := Lib.hid B0
  have t0 : (V == V) = true := beq_self_eq_true V
  have t1 : (k == k) = true := beq_self_eq_true k
  have D := Lib.hid (fun y => to_both x y h)
  have F1 := Lib.hid (fun W => wfrom_any v v0 v1 W)
  have F2 := Lib.hid (fun W => rfrom6_any v v0 v1 W)
  generalize fromV v = fv at *
  have t2 : (fv == fv) = true := beq_self_eq_true fv
  clear A0 B0 h v0 v1
  go_enter Try.func5, Try.ntmps5
  go_wp2_with fail
  refine (shown6_any _).mono ?_
  rintro e w1 ⟨rfl, hb1⟩
  go_wp2_with fail
  refine (F1.out _).mono ?_
  rintro e w2 ⟨rfl, hb2⟩
  have hB2 := hb1.trans (hb2.mono hb1.size)
  go_wp2_with fail
  refine (F2.out _).mono ?_
  rintro e w3 ⟨rfl, hb3⟩
  have hB3 := hB2.trans (hb3.mono hB2.size)
  clear hb1 hb2 hb3 hB2
  go_wp2_with fail
  refine (A.out _).mono ?_
  rintro e w4 ⟨rfl, hb4⟩
  have hB4 := hB3.trans (hb4.mono hB3.size)
  go_wp2_with fail
  refine (B.out _).mono ?_
  rintro e w5 ⟨rfl, hb5⟩
  have hB5 := hB4.trans (hb5.mono hB4.size)
  clear hb4 hb5 hB4 hB3
  go_wp2
  clear A B t0 t1 t2 F1 F2
  have hB5 := Lib.hid hB5
  go_loopw [12] (fun i wr => ∃ j : Int, i = .int .i64 j ∧ 0 ≤ j ∧ j ≤ 6 ∧ Below w.heap.size w wr) (fun i _ => (6 - intOf i).toNat)
  case atStart => exact ⟨0, rfl, by decide, by decide, hB5.out⟩
  case round =>
    obtain ⟨j, rfl, j0, j6, hB⟩ := hrel
    clear hB5
    by_cases c : j < 6
    · obtain ⟨V, k, A0, B0⟩ := D.out j
      have A := Lib.hid A0
      have B := Lib.hid B0
      have t0 : (V == V) = true := beq_self_eq_true V
      have t1 : (k == k) = true := beq_self_eq_true k
      clear A0 B0 D
      go_wp2_with fail
      refine (A.out _).mono ?_
      rintro e w2 ⟨rfl, hb2⟩
      have hB2 := hB.trans (hb2.mono hB.size)
      go_wp2_with fail
      refine (B.out _).mono ?_
      rintro e w3 ⟨rfl, hb3⟩
      have hB3 := hB2.trans (hb3.mono hB2.size)
      clear hb2 hb3 hB2
      go_wp2
      go_roundw
      case rel => exact ⟨j + 1, by go_num, by omega, by omega, hB3⟩
      case measure => simp [intOf]; omega
    · go_wp2
      go_ret
      exact ⟨rfl, hB⟩
end Go.Proofs.Ytomeidbigofnaaa
