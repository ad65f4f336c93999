/-
  Sums and differences, where the table of sums alone is known.
-/
import Derived.Test.YtnefacnceemklaaDoorX2
namespace Go.Proofs.YtnefacnceemklaaDoor
open Go.RowKit Go.Shelf

/-- The table of sums stands as start-up laid it. -/
def Tabs1 (w : World) : Prop := 1 ≤ w.heap.size ∧ (∀ n : Nat, n < 25 → w.cell? ⟨0, n, none⟩ = some (.int .i64 (sumL.getD n 0)))
theorem Tabs1.below {w w' : World} (h : Tabs1 w) (hb : Below w.heap.size w w') : Tabs1 w' := by
  obtain ⟨a, b⟩ := h
  exact ⟨Nat.le_trans a hb.size, fun n hn => by rw [(bcell hb).1 _ _ (by omega)]; exact b n hn⟩
set_option maxRecDepth 100000 in
set_option maxHeartbeats 1000000 in
theorem plus1_any (a b : Int) (h1 : Word a) (h2 : Word b) (w : World) (hT : Tabs1 w) :
    Calls Tryd.prog 26 #[.int .u64 a, .int .u64 b] w (WordPost (addV a b) w) := by
  obtain ⟨k, hk⟩ : ∃ z, kindI a = z := ⟨_, rfl⟩
  obtain ⟨j, hj⟩ : ∃ z, kindI b = z := ⟨_, rfl⟩
  have bk := kind_bd a
  have bj := kind_bd b
  rw [hk] at bk; rw [hj] at bj
  have KA := Lib.hid (fun w => kind_q a _ h1 hk w)
  have KB := Lib.hid (fun w => kind_q b _ h2 hj w)
  have hB0 : Hid (∀ n, Below w.heap.size w (w.drewN n)) := fun n => below_drewN (Below.refl _ _) n
  obtain ⟨r, hr⟩ : ∃ z, R (sX a + sX b) = z := ⟨_, rfl⟩
  have AD : Hid (1 ≤ k → k ≤ 2 → 1 ≤ j → j ≤ 2 → ∀ w, Calls Tryd.prog 60 #[.int .u64 a, .int .u64 b] w (WordPost r w)) := fun _ _ _ _ w => by
    rw [← hr]
    exact added_any a b h1 h2 (fin_of_kind h1 (by omega)) (fin_of_kind h2 (by omega)) (nz_of_kind h1 (by omega) (by omega)) (nz_of_kind h2 (by omega) (by omega)) w
  have V : Hid (∀ z, z = (if k = 4 ∨ j = 4 then 9221120237041090560 else if k = 3 then (if j = 3 then (if a = b then a else 9221120237041090560) else a) else if j = 3 then b
      else if k = 0 then (if j = 0 then bits .and .u64 a b else b) else if j = 0 then a else r) → Ending.returned (Value.int .u64 z) = .returned (.int .u64 (addV a b))) := by
    intro z hz
    rw [hz]; unfold addV addK; rw [hk, hj, hr]
  have cell : ∀ n : Nat, n < 25 → w.cell? ⟨0, n, none⟩ = some (.int .i64 (sumL.getD n 0)) := hT.2
  have Cell := Lib.hid cell
  clear h1 h2 hk hj hT hr cell
  generalize addV a b = v at *
  by_cases c33 : k = 3 ∧ j = 3
  · obtain ⟨rfl, rfl⟩ := c33
    have hcell := Cell.out 18 (by decide)
    simp [sumL] at hcell
    clear bk bj AD Cell
    by_cases hab : a = b
    · have V2 := Lib.hid (V.out a (by simp [hab])); clear V
      have hab : (a == b) = true := by simpa using hab
      go_enter Tryd.func26, Tryd.ntmps26
      go_wp2_with fail
      go_quiet (first | (go_at_call_of 34 (Value.int IntKind.u64 a); exact Calls.quiet_of_same (KA.out _)) | (go_at_call_of 34 (Value.int IntKind.u64 b); exact Calls.quiet_of_same (KB.out _)))
      go_wp2_with fail
      go_ret
      exact ⟨V2.out, hB0.out _⟩
    · have V2 := Lib.hid (V.out 9221120237041090560 (by simp [hab])); clear V
      have hab : (a == b) = false := by simpa using hab
      go_enter Tryd.func26, Tryd.ntmps26
      go_wp2_with fail
      go_quiet (first | (go_at_call_of 34 (Value.int IntKind.u64 a); exact Calls.quiet_of_same (KA.out _)) | (go_at_call_of 34 (Value.int IntKind.u64 b); exact Calls.quiet_of_same (KB.out _)))
      go_wp2_with fail
      go_ret
      exact ⟨V2.out, hB0.out _⟩
  · have ck : k = 0 ∨ k = 1 ∨ k = 2 ∨ k = 3 ∨ k = 4 := by omega
    have cj : j = 0 ∨ j = 1 ∨ j = 2 ∨ j = 3 ∨ j = 4 := by omega
    clear bk bj
    rcases ck with rfl | rfl | rfl | rfl | rfl <;> rcases cj with rfl | rfl | rfl | rfl | rfl
    all_goals first
      | exact absurd ⟨rfl, rfl⟩ c33
      | (have AD := Lib.hid (AD.out (by decide) (by decide) (by decide) (by decide))
         have V := Lib.hid (V.out r (by simp))
         have hcell := Cell.out 6 (by decide)
         have hcell2 := Cell.out 7 (by decide)
         have hcell3 := Cell.out 11 (by decide)
         have hcell4 := Cell.out 12 (by decide)
         simp [sumL] at hcell hcell2 hcell3 hcell4
         clear c33 Cell
         go_enter Tryd.func26, Tryd.ntmps26
         go_wp2_with fail
         go_quiet (first | (go_at_call_of 34 (Value.int IntKind.u64 a); exact Calls.quiet_of_same (KA.out _)) | (go_at_call_of 34 (Value.int IntKind.u64 b); exact Calls.quiet_of_same (KB.out _)))
         go_wp2_with (go_at_call 60; refine (AD.out _).mono ?_; rintro en w1 ⟨rfl, hb⟩)
         go_ret
         exact ⟨V.out, (hB0.out _).trans hb⟩)
      | (clear AD c33
         have hcell := Cell.out 0 (by decide)
         have hcell1 := Cell.out 1 (by decide)
         have hcell2 := Cell.out 2 (by decide)
         have hcell3 := Cell.out 3 (by decide)
         have hcell4 := Cell.out 4 (by decide)
         have hcell5 := Cell.out 5 (by decide)
         have hcell8 := Cell.out 8 (by decide)
         have hcell9 := Cell.out 9 (by decide)
         have hcell10 := Cell.out 10 (by decide)
         have hcell13 := Cell.out 13 (by decide)
         have hcell14 := Cell.out 14 (by decide)
         have hcell15 := Cell.out 15 (by decide)
         have hcell16 := Cell.out 16 (by decide)
         have hcell17 := Cell.out 17 (by decide)
         have hcell19 := Cell.out 19 (by decide)
         have hcell20 := Cell.out 20 (by decide)
         have hcell21 := Cell.out 21 (by decide)
         have hcell22 := Cell.out 22 (by decide)
         have hcell23 := Cell.out 23 (by decide)
         have hcell24 := Cell.out 24 (by decide)
         simp [sumL] at hcell hcell1 hcell2 hcell3 hcell4 hcell5 hcell8 hcell9 hcell10 hcell13 hcell14 hcell15 hcell16 hcell17 hcell19 hcell20 hcell21 hcell22 hcell23 hcell24
         go_enter Tryd.func26, Tryd.ntmps26
         go_wp2_with fail
         go_quiet (first | (go_at_call_of 34 (Value.int IntKind.u64 a); exact Calls.quiet_of_same (KA.out _)) | (go_at_call_of 34 (Value.int IntKind.u64 b); exact Calls.quiet_of_same (KB.out _)))
         go_wp2_with fail
         go_ret
         exact ⟨V.out _ (by simp), hB0.out _⟩)
set_option maxHeartbeats 400000 in
theorem minus1_any (a b : Int) (h1 : Word a) (h2 : Word b) (w : World) (hT : Tabs1 w) :
    Calls Tryd.prog 33 #[.int .u64 a, .int .u64 b] w (WordPost (subV a b) w) := by
  obtain ⟨c, hc⟩ : ∃ z, negI b = z := ⟨_, rfl⟩
  have N := Lib.hid (fun w => neg_vars b c h2 hc w)
  have A := Lib.hid (plus1_any a c h1 (by rw [← hc]; exact neg_word b h2) w hT)
  unfold subV
  rw [hc]
  clear h1 h2 hT hc
  generalize addV a c = r at *
  go_enter Tryd.func33, Tryd.ntmps33
  go_wp2_with fail
  refine (N.out _).mono ?_
  rintro en w1 ⟨rfl, rfl⟩
  go_wp2_with fail
  refine (A.out).mono ?_
  rintro en w1 ⟨rfl, hb⟩
  go_wp2
  go_ret
  exact ⟨rfl, hb⟩
end Go.Proofs.YtnefacnceemklaaDoor
