/-
  Layer 6 at the chapter's examples.
-/
import Derived.Test.YtnefacnceemklaaDoorG11
namespace Go.Proofs.YtnefacnceemklaaDoor
open Go.RowKit Go.Shelf

theorem xc0 (W : World) : Calls Tryd.prog 32 #[.int .u64 9223372036854775808, .int .u64 0] W fun e w' => e = .returned (.tuple #[.int .i64 (0), .bool true]) ∧ W = w' := by
  have t := wcmp_any 9223372036854775808 0 (by decide) (by decide) W
  rw [show cmpN 9223372036854775808 0 = 0 by decide +kernel, show cmpB 9223372036854775808 0 = true by decide +kernel] at t; exact t
theorem xc1 (W : World) : Calls Tryd.prog 32 #[.int .u64 13830554455654793216, .int .u64 4607182418800017408] W fun e w' => e = .returned (.tuple #[.int .i64 (-1), .bool true]) ∧ W = w' := by
  have t := wcmp_any 13830554455654793216 4607182418800017408 (by decide) (by decide) W
  rw [show cmpN 13830554455654793216 4607182418800017408 = -1 by decide +kernel, show cmpB 13830554455654793216 4607182418800017408 = true by decide +kernel] at t; exact t
theorem xc2 (W : World) : Calls Tryd.prog 32 #[.int .u64 9221120237041090560, .int .u64 4607182418800017408] W fun e w' => e = .returned (.tuple #[.int .i64 (0), .bool false]) ∧ W = w' := by
  have t := wcmp_any 9221120237041090560 4607182418800017408 (by decide) (by decide) W
  rw [show cmpN 9221120237041090560 4607182418800017408 = 0 by decide +kernel, show cmpB 9221120237041090560 4607182418800017408 = false by decide +kernel] at t; exact t
theorem xs (W : World) : Calls Tryd.prog 62 #[.int .u64 9223372036854775808] W fun e w' => e = .returned (.int .i64 0) ∧ W = w' := by
  have t := wsign_any 9223372036854775808 (by decide) W
  rw [show cmpN 9223372036854775808 0 = 0 by decide +kernel] at t; exact t
theorem xi0 (W : World) : Calls Tryd.prog 31 #[.int .u64 4616752568008179712] W (BoolPost false W) := by
  have t := wis_any 4616752568008179712 (by decide) W
  rw [show isB 4616752568008179712 = false by decide +kernel] at t; exact t
theorem xi1 (W : World) : Calls Tryd.prog 31 #[.int .u64 4877398396442247168] W (BoolPost true W) := by
  have t := wis_any 4877398396442247168 (by decide) W
  rw [show isB 4877398396442247168 = true by decide +kernel] at t; exact t
theorem xw0 (W : World) : Calls Tryd.prog 30 #[.int .u64 4612811918334230528, .int .i64 0] W (WholePost 4611686018427387904 0 W) := by
  have t := whole_at 4612811918334230528 0 (by decide) (by decide) (by decide) W
  rw [show wholeV 0 4612811918334230528 = 4611686018427387904 by decide +kernel] at t; exact t
theorem xw1 (W : World) : Calls Tryd.prog 30 #[.int .u64 4612811918334230528, .int .i64 1] W (WholePost 4613937818241073152 0 W) := by
  have t := whole_at 4612811918334230528 1 (by decide) (by decide) (by decide) W
  rw [show wholeV 1 4612811918334230528 = 4613937818241073152 by decide +kernel] at t; exact t
theorem xw2 (W : World) : Calls Tryd.prog 30 #[.int .u64 13836183955189006336, .int .i64 4] W (WholePost 13837309855095848960 0 W) := by
  have t := whole_at 13836183955189006336 4 (by decide) (by decide) (by decide) W
  rw [show wholeV 4 13836183955189006336 = 13837309855095848960 by decide +kernel] at t; exact t
theorem xw3 (W : World) : Calls Tryd.prog 30 #[.int .u64 13836183955189006336, .int .i64 5] W (WholePost 13835058055282163712 0 W) := by
  have t := whole_at 13836183955189006336 5 (by decide) (by decide) (by decide) W
  rw [show wholeV 5 13836183955189006336 = 13835058055282163712 by decide +kernel] at t; exact t
theorem xw4 (W : World) : Calls Tryd.prog 30 #[.int .u64 13822447976325526323, .int .i64 5] W (WholePost 9223372036854775808 0 W) := by
  have t := whole_at 13822447976325526323 5 (by decide) (by decide) (by decide) W
  rw [show wholeV 5 13822447976325526323 = 9223372036854775808 by decide +kernel] at t; exact t
theorem xw5 (W : World) : Calls Tryd.prog 30 #[.int .u64 4599075939470750515, .int .i64 3] W (WholePost 4607182418800017408 0 W) := by
  have t := whole_at 4599075939470750515 3 (by decide) (by decide) (by decide) W
  rw [show wholeV 3 4599075939470750515 = 4607182418800017408 by decide +kernel] at t; exact t
theorem xw6 (W : World) : Calls Tryd.prog 30 #[.int .u64 4890909195324358656, .int .i64 2] W (WholePost 4890909195324358656 0 W) := by
  have t := whole_at 4890909195324358656 2 (by decide) (by decide) (by decide) W
  rw [show wholeV 2 4890909195324358656 = 4890909195324358656 by decide +kernel] at t; exact t
theorem xw7 (W : World) : Calls Tryd.prog 30 #[.int .u64 9218868437227405312, .int .i64 2] W (WholePost 9218868437227405312 0 W) := by
  have t := whole_at 9218868437227405312 2 (by decide) (by decide) (by decide) W
  rw [show wholeV 2 9218868437227405312 = 9218868437227405312 by decide +kernel] at t; exact t
theorem xw8 (W : World) : Calls Tryd.prog 30 #[.int .u64 4612811918334230528, .int .i64 6] W (WholePost 0 1 W) := whole_arg _ 6 (by decide) (by decide) W
theorem xf0 (W : World) : Calls Tryd.prog 64 #[.int .i64 (9007199254740993)] W (WordPost 4845873199050653696 W) := by
  have t := wfrom_any (9007199254740993) (by decide) (by decide) W
  rw [show fromV (9007199254740993) = 4845873199050653696 by decide +kernel] at t; exact t
theorem xf1 (W : World) : Calls Tryd.prog 64 #[.int .i64 (-9223372036854775808)] W (WordPost 14114281232179134464 W) := by
  have t := wfrom_any (-9223372036854775808) (by decide) (by decide) W
  rw [show fromV (-9223372036854775808) = 14114281232179134464 by decide +kernel] at t; exact t
theorem xm0 (W : World) : Calls Tryd.prog 65 #[.int .u64 9223372036854775808, .int .u64 0] W fun e w' => e = .returned (.int .u64 9223372036854775808) ∧ W = w' := by
  have t := wmin_any 9223372036854775808 0 (by decide) (by decide) W
  rw [show minI 9223372036854775808 0 = 9223372036854775808 by decide +kernel] at t; exact t
theorem xm1 (W : World) : Calls Tryd.prog 66 #[.int .u64 9223372036854775808, .int .u64 0] W fun e w' => e = .returned (.int .u64 0) ∧ W = w' := by
  have t := wmax_any 9223372036854775808 0 (by decide) (by decide) W
  rw [show maxI 9223372036854775808 0 = 0 by decide +kernel] at t; exact t
theorem xm2 (W : World) : Calls Tryd.prog 65 #[.int .u64 9221120237041090560, .int .u64 4607182418800017408] W fun e w' => e = .returned (.int .u64 9221120237041090560) ∧ W = w' := by
  have t := wmin_any 9221120237041090560 4607182418800017408 (by decide) (by decide) W
  rw [show minI 9221120237041090560 4607182418800017408 = 9221120237041090560 by decide +kernel] at t; exact t
theorem xm3 (W : World) : Calls Tryd.prog 66 #[.int .u64 18442240474082181120, .int .u64 4613937818241073152] W fun e w' => e = .returned (.int .u64 4613937818241073152) ∧ W = w' := by
  have t := wmax_any 18442240474082181120 4613937818241073152 (by decide) (by decide) W
  rw [show maxI 18442240474082181120 4613937818241073152 = 4613937818241073152 by decide +kernel] at t; exact t
end Go.Proofs.YtnefacnceemklaaDoor
