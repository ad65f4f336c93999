/-
  whole.To at the chapter's examples.
-/
import Derived.Test.YtnefacnceemklaaDoorH0
namespace Go.Proofs.YtnefacnceemklaaDoor
open Go.RowKit Go.Shelf

theorem t_kind0 (W : World) : Calls Tryd.prog 34 #[.int .u64 4612811918334230528] W fun e w' => e = .returned (.int .i64 2) ∧ W = w' := kind_vars _ 2 (by decide) (by decide) W
theorem t_kind1 (W : World) : Calls Tryd.prog 34 #[.int .u64 4890909195324358656] W fun e w' => e = .returned (.int .i64 2) ∧ W = w' := kind_vars _ 2 (by decide) (by decide) W
theorem t_kind2 (W : World) : Calls Tryd.prog 34 #[.int .u64 9218868437227405312] W fun e w' => e = .returned (.int .i64 3) ∧ W = w' := kind_vars _ 3 (by decide) (by decide) W
theorem t_split0 (W : World) : Calls Tryd.prog 56 #[.int .u64 4611686018427387904] W fun e w' => e = .returned (.tuple #[.bool false, .int .u64 4503599627370496, .int .i64 (-51)]) ∧ W = w' := by
  have t := split_any 4611686018427387904 (by decide) W
  rw [show negB 4611686018427387904 = false by decide +kernel, show mantI 4611686018427387904 = 4503599627370496 by decide +kernel, show powI 4611686018427387904 = -51 by decide +kernel] at t; exact t
theorem t_split1 (W : World) : Calls Tryd.prog 56 #[.int .u64 4890909195324358656] W fun e w' => e = .returned (.tuple #[.bool false, .int .u64 4503599627370496, .int .i64 11]) ∧ W = w' := by
  have t := split_any 4890909195324358656 (by decide) W
  rw [show negB 4890909195324358656 = false by decide +kernel, show mantI 4890909195324358656 = 4503599627370496 by decide +kernel, show powI 4890909195324358656 = 11 by decide +kernel] at t; exact t
theorem t_abs0 (W : World) : Calls Tryd.prog 55 #[.int .u64 4611686018427387904] W fun e w' => e = .returned (.int .u64 4611686018427387904) ∧ W = w' := by
  have t := abs_any 4611686018427387904 (by decide) W
  rw [show absI (rightI 4611686018427387904) = 4611686018427387904 by decide +kernel] at t; exact t
theorem t_abs1 (W : World) : Calls Tryd.prog 55 #[.int .u64 4890909195324358656] W fun e w' => e = .returned (.int .u64 4890909195324358656) ∧ W = w' := by
  have t := abs_any 4890909195324358656 (by decide) W
  rw [show absI (rightI 4890909195324358656) = 4890909195324358656 by decide +kernel] at t; exact t
theorem t_neg (W : World) : Calls Tryd.prog 71 #[.int .u64 14114281232179134464] W fun e w' => e = .returned (.int .u64 4890909195324358656) ∧ W = w' := by
  have t := neg_any 14114281232179134464 (by decide) W
  rw [show negI 14114281232179134464 = 4890909195324358656 by decide +kernel] at t; exact t
theorem t_rank0 (W : World) : Calls Tryd.prog 70 #[.int .u64 4611686018427387904] W fun e w' => e = .returned (.int .i64 4611686018427387904) ∧ W = w' := by
  have t := wrank_any 4611686018427387904 (by decide) W
  rw [show rankW 4611686018427387904 = 4611686018427387904 by decide +kernel] at t; exact t
theorem t_rank1 (W : World) : Calls Tryd.prog 70 #[.int .u64 4890909195324358656] W fun e w' => e = .returned (.int .i64 4890909195324358656) ∧ W = w' := by
  have t := wrank_any 4890909195324358656 (by decide) W
  rw [show rankW 4890909195324358656 = 4890909195324358656 by decide +kernel] at t; exact t

set_option maxRecDepth 100000 in
set_option maxHeartbeats 1000000 in
theorem xt2 (w : World) : Calls Tryd.prog 63 #[.int .u64 9218868437227405312, .int .i64 2] w (fun e w' => e = .returned (.tuple #[.int .i64 0, .int .i64 11]) ∧ Below w.heap.size w w') := by
  go_enter Tryd.func63, Tryd.ntmps63
  go_wp2_with fail
  refine (xw7 _).mono ?_
  rintro e w1 ⟨rfl, hb1⟩
  go_wp2_with (go_at_call 34; refine (t_kind2 _).mono ?_; rintro e w' ⟨rfl, rfl⟩)
  go_ret2
  exact ⟨rfl, hb1⟩
set_option maxRecDepth 100000 in
set_option maxHeartbeats 1000000 in
theorem xt1 (w : World) : Calls Tryd.prog 63 #[.int .u64 4890909195324358656, .int .i64 2] w (fun e w' => e = .returned (.tuple #[.int .i64 0, .int .i64 6]) ∧ Below w.heap.size w w') := by
  go_enter Tryd.func63, Tryd.ntmps63
  go_wp2_with fail
  refine (xw6 _).mono ?_
  rintro e w1 ⟨rfl, hb1⟩
  go_wp2_with (first | (go_at_call 34; refine (t_kind1 _).mono ?_; rintro e w' ⟨rfl, rfl⟩) | (go_at_call 56; refine (t_split1 _).mono ?_; rintro e w' ⟨rfl, rfl⟩))
  refine (xf1 _).mono ?_
  rintro e w2 ⟨rfl, hb2⟩
  have hB2 := hb1.trans (hb2.mono hb1.size)
  clear hb1 hb2
  go_wp2_with (first | (go_at_call 55; refine (t_abs1 _).mono ?_; rintro e w' ⟨rfl, rfl⟩) | (go_at_call 70; refine (t_rank1 _).mono ?_; rintro e w' ⟨rfl, rfl⟩) | (go_at_call 71; refine (t_neg _).mono ?_; rintro e w' ⟨rfl, rfl⟩))
  refine (xf1 _).mono ?_
  rintro e w3 ⟨rfl, hb3⟩
  have hB3 := hB2.trans (hb3.mono hB2.size)
  clear hb3 hB2
  go_wp2_with (first | (go_at_call 70; refine (t_rank1 _).mono ?_; rintro e w' ⟨rfl, rfl⟩) | (go_at_call 71; refine (t_neg _).mono ?_; rintro e w' ⟨rfl, rfl⟩))
  go_ret2
  exact ⟨rfl, hB3⟩
set_option maxRecDepth 100000 in
set_option maxHeartbeats 1000000 in
theorem xt0 (w : World) : Calls Tryd.prog 63 #[.int .u64 4612811918334230528, .int .i64 0] w (fun e w' => e = .returned (.tuple #[.int .i64 2, .int .i64 0]) ∧ Below w.heap.size w w') := by
  go_enter Tryd.func63, Tryd.ntmps63
  go_wp2_with fail
  refine (xw0 _).mono ?_
  rintro e w1 ⟨rfl, hb1⟩
  go_wp2_with (first | (go_at_call 34; refine (t_kind0 _).mono ?_; rintro e w' ⟨rfl, rfl⟩) | (go_at_call 56; refine (t_split0 _).mono ?_; rintro e w' ⟨rfl, rfl⟩))
  refine (xf1 _).mono ?_
  rintro e w2 ⟨rfl, hb2⟩
  have hB2 := hb1.trans (hb2.mono hb1.size)
  clear hb1 hb2
  go_wp2_with (first | (go_at_call 55; refine (t_abs0 _).mono ?_; rintro e w' ⟨rfl, rfl⟩) | (go_at_call 70; refine (t_rank0 _).mono ?_; rintro e w' ⟨rfl, rfl⟩))
  refine (xf1 _).mono ?_
  rintro e w3 ⟨rfl, hb3⟩
  have hB3 := hB2.trans (hb3.mono hB2.size)
  clear hb3 hB2
  go_wp2_with (first | (go_at_call 70; refine (t_rank1 _).mono ?_; rintro e w' ⟨rfl, rfl⟩) | (go_at_call 71; refine (t_neg _).mono ?_; rintro e w' ⟨rfl, rfl⟩))
  go_ret2
  refine ⟨?_, hB3⟩
  have e : wrap64 (4503599627370496 / 2 ^ (min (51 : Int) 63).toNat) = 2 := by decide +kernel
  show Ending.returned (.tuple #[.int .i64 (wrap64 (4503599627370496 / 2 ^ (min (51 : Int) 63).toNat)), .int .i64 0]) = _
  rw [e]
end Go.Proofs.YtnefacnceemklaaDoor
