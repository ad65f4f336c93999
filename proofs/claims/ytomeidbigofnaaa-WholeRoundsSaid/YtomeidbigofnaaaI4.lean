/-
  The statement WholeRounds, walked.
-/
import Derived.Test.YtomeidbigofnaaaH2
namespace Go.Proofs.Ytomeidbigofnaaa
open Go.RowKit Go.Shelf

theorem whole_both (x y : Int) (h : Word x) : ∃ V k : Int, (∀ W, Calls Try.prog 19 #[.int .u64 x, .int .i64 y] W (WholePost V k W)) ∧ (∀ W, Calls Try.prog 20 #[.int .u64 x, .int .i64 y] W (WholePost V k W)) := by
  by_cases c : y < 0 ∨ 5 < y
  · exact ⟨0, 1, fun W => whole_arg x y h c W, fun W => rwhole_arg x y c W⟩
  · exact ⟨wholeV y x, 0, fun W => whole_at x y h (by omega) (by omega) W, fun W => rwhole_at x y h (by omega) (by omega) W⟩

set_option maxRecDepth 100000 in
set_option maxHeartbeats 4000000 in
theorem rounds6_any (x y : Int) (h : Word x) (y0 : -9223372036854775808 ≤ y) (y1 : y ≤ 9223372036854775807) (w : World) : Calls Try.prog 4 #[.int .u64 x, .int .i64 y] w (BoolPost true w) := by
  obtain ⟨V, k, A0, B0⟩ := whole_both x y h
  have A := Lib.hid A0
  have B := Lib.hid B0
  have t0 : (V == V) = true := beq_self_eq_true V
  have t1 : (k == k) = true := beq_self_eq_true k
  have D := Lib.hid (fun y => whole_both x y h)
  clear A0 B0 h
  go_enter Try.func4, Try.ntmps4
  go_wp2_with fail
  refine (shown6_any _).mono ?_
  rintro e w1 ⟨rfl, hb1⟩
  go_wp2_with fail
  refine (A.out _).mono ?_
  rintro e w2 ⟨rfl, hb2⟩
  have hB2 := hb1.trans (hb2.mono hb1.size)
  go_wp2_with fail
  refine (B.out _).mono ?_
  rintro e w3 ⟨rfl, hb3⟩
  have hB3 := hB2.trans (hb3.mono hB2.size)
  clear hb1 hb2 hb3 hB2
  have tf : (10 : Nat) = 10 := rfl
  clear tf
  go_wp2
  clear A B t0 t1
  have hB3 := Lib.hid hB3
  go_loopw [10] (fun i wr => ∃ j : Int, i = .int .i64 j ∧ 0 ≤ j ∧ j ≤ 6 ∧ Below w.heap.size w wr) (fun i _ => (6 - intOf i).toNat)
  case atStart => exact ⟨0, rfl, by decide, by decide, hB3.out⟩
  case round =>
    obtain ⟨j, rfl, j0, j6, hB⟩ := hrel
    clear hB3
    by_cases c : j < 6
    · obtain ⟨V, k, A0, B0⟩ := D.out j
      have A := Lib.hid A0
      have B := Lib.hid B0
      have t0 : (V == V) = true := beq_self_eq_true V
      clear A0 B0 D
      go_wp2_with fail
      refine (A.out _).mono ?_
      rintro e w2 ⟨rfl, hb2⟩
      have hB2 := hB.trans (hb2.mono hB.size)
      go_wp2_with fail
      refine (B.out _).mono ?_
      rintro e w3 ⟨rfl, hb3⟩
      have hB3 := hB2.trans (hb3.mono hB2.size)
      clear hb2 hb3 hB2
      go_wp2
      go_roundw
      case rel => exact ⟨j + 1, by go_num, by omega, by omega, hB3⟩
      case measure => simp [intOf]; omega
    · go_wp2
      go_ret
      exact ⟨rfl, hB⟩
end Go.Proofs.Ytomeidbigofnaaa
