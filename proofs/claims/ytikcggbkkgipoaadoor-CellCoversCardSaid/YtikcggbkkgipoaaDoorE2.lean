/-
  The document's cells: digits, letters, Print: walked.
-/
import Derived.Test.YtikcggbkkgipoaaDoorE1
import Derived.Deep.RegionHeld3
namespace Go.Proofs.YtikcggbkkgipoaaDoor
open Go.RowKit Go.Shelf

theorem undStr : Tryd.prog.underlying 9 = some .string := by kernel_rfl
theorem run_slice_str (s : ByteArray) (l h : Nat) (hl : l ≤ h) (hh : h ≤ s.size) (_hb : s.size ≤ 100000) (w : World) :
    (Instr.slice 9 (.string s) (some (.int .i64 (l : Int))) (some (.int .i64 (h : Int))) none).run Tryd.prog w = .ok (.string (s.extract l h)) w := by
  have h1 : (0 : Int) ≤ (h : Int) := by omega
  have h2 : (h : Int) ≤ (s.size : Int) := by omega
  have h3 : (0 : Int) ≤ (l : Int) := by omega
  have h4 : (l : Int) ≤ (h : Int) := by omega
  simp [Instr.slice, go_sem, *]
def digLit : ByteArray := { data := #[48, 49, 50, 51, 52, 53, 54, 55, 56, 57] }
def letLit : ByteArray := { data := #[65, 66, 67, 68, 69, 70, 71, 72, 73, 74, 75, 76, 77, 78, 79, 80, 81, 82, 83, 84, 85, 86, 87, 88, 89, 90] }
theorem dig_cut : ∀ k : Nat, k < 10 → (digLit.extract k (k + 1)).data.toList = [UInt8.ofNat (48 + k)] := by decide +kernel
theorem let_cut : ∀ k : Nat, k < 26 → (letLit.extract k (k + 1)).data.toList = [UInt8.ofNat (65 + k)] := by decide +kernel
theorem rdigits_any (k : Nat) : ∀ (w : World), k ≤ 1000 →
    Calls Tryd.prog 36 #[.int .i64 (k : Int)] w fun e w' => (∃ S : ByteArray, e = .returned (.string S) ∧ S.data.toList = Lib.decDigits k) ∧ w = w' := by
  induction k using Nat.strongRecOn with
  | ind k ih =>
    intro w hk
    have w1 : IntKind.i64.wrap ((k : Int) + 1) = (k : Int) + 1 := by rw [IntKind.wrap_i64]; omega
    by_cases h : k < 10
    · have h' : (k : Int) < 10 := by omega
      have k0 : (0 : Int) ≤ (k : Int) := by omega
      have k1 : (k : Int) + 1 ≤ 10 := by omega
      have HC := Lib.hid (dig_cut k h)
      have HD := Lib.hid (Lib.decDigits_one h)
      have hsl : ∀ W, (Instr.slice 9 (.string { data := #[48, 49, 50, 51, 52, 53, 54, 55, 56, 57] }) (some (.int .i64 (k : Int))) (some (.int .i64 ((k : Int) + 1))) none).run Tryd.prog W = .ok (.string (digLit.extract k (k + 1))) W := fun W => run_slice_str digLit k (k + 1) (by omega) (by show k + 1 ≤ 10; omega) (by decide) W
      generalize digLit.extract k (k + 1) = S at *
      clear ih
      go_enter Tryd.func36, Tryd.ntmps36
      go_wp2
      go_ret
      exact ⟨⟨_, rfl, by rw [HC.out, HD.out]⟩, rfl⟩
    · have h' : ¬ (k : Int) < 10 := by omega
      have t1 : (k : Int).tdiv 10 = ((k / 10 : Nat) : Int) := by rw [Int.tdiv_eq_ediv_of_nonneg (by omega)]; omega
      have t2 : (k : Int).tmod 10 = ((k % 10 : Nat) : Int) := by rw [Int.tmod_eq_emod_of_nonneg (by omega)]; omega
      have I1 := Lib.hid (fun W => ih (k / 10) (by omega) W (by omega))
      have I2 := Lib.hid (fun W => ih (k % 10) (by omega) W (by omega))
      have ED : Hid (Lib.decDigits k = Lib.decDigits (k / 10) ++ Lib.decDigits (k % 10)) := by
        unfold Hid
        rw [Lib.decDigits, dif_neg h, Lib.decDigits_one (show k % 10 < 10 by omega)]
      have l1 := decDigits_len (k / 10) (by omega)
      have l2 := decDigits_len (k % 10) (by omega)
      have ab : k / 10 ≤ 1000 ∧ k % 10 ≤ 1000 := by omega
      generalize k / 10 = a at *
      generalize k % 10 = b at *
      have w2 : IntKind.i64.wrap (a : Int) = (a : Int) := by rw [IntKind.wrap_i64]; omega
      have w3 : IntKind.i64.wrap (b : Int) = (b : Int) := by rw [IntKind.wrap_i64]; omega
      clear ih
      go_enter Tryd.func36, Tryd.ntmps36
      go_wp2_with fail
      refine (I1.out _).mono ?_
      rintro e w2 ⟨⟨S1, rfl, hS1⟩, rfl⟩
      go_wp2_with fail
      refine (I2.out _).mono ?_
      rintro e w2 ⟨⟨S2, rfl, hS2⟩, rfl⟩
      have z1 : S1.size ≤ 4 := by rw [bytes_size, hS1]; exact l1
      have z2 : S2.size ≤ 4 := by rw [bytes_size, hS2]; exact l2
      have hov : ¬ 9223372036854775807 < S1.size + S2.size := by omega
      obtain ⟨F, hF, lF⟩ := app_of S1 S2 _ _ hS1 hS2
      have LF := Lib.hid lF
      clear lF hS1 hS2
      go_wp2
      go_ret
      exact ⟨⟨_, rfl, by rw [LF.out, ED.out]⟩, rfl⟩
theorem rletters_small (k : Nat) (h : k < 26) (w : World) :
    Calls Tryd.prog 35 #[.int .i64 (k : Int)] w fun e w' => e = .returned (.string (letLit.extract k (k + 1))) ∧ w = w' := by
  have w1 : IntKind.i64.wrap ((k : Int) + 1) = (k : Int) + 1 := by rw [IntKind.wrap_i64]; omega
  have h' : (k : Int) < 26 := by omega
  have hsl : ∀ W, (Instr.slice 9 (.string { data := #[65, 66, 67, 68, 69, 70, 71, 72, 73, 74, 75, 76, 77, 78, 79, 80, 81, 82, 83, 84, 85, 86, 87, 88, 89, 90] }) (some (.int .i64 (k : Int))) (some (.int .i64 ((k : Int) + 1))) none).run Tryd.prog W = .ok (.string (letLit.extract k (k + 1))) W := fun W => run_slice_str letLit k (k + 1) (by omega) (by show k + 1 ≤ 26; omega) (by decide) W
  generalize letLit.extract k (k + 1) = S at *
  go_enter Tryd.func35, Tryd.ntmps35
  go_wp2
  go_ret
  exact ⟨rfl, rfl⟩
set_option maxHeartbeats 2000000 in
theorem rletters_big (k : Nat) (h0 : 26 ≤ k) (h : k < 64) (w : World) :
    Calls Tryd.prog 35 #[.int .i64 (k : Int)] w fun e w' => (∃ S : ByteArray, e = .returned (.string S) ∧ S.data.toList = colN (k : Int)) ∧ Below w.heap.size w w' := by
  have h' : ¬ (k : Int) < 26 := by omega
  have t1 : (k : Int).tdiv 26 = ((k / 26 - 1 + 1 : Nat) : Int) := by rw [Int.tdiv_eq_ediv_of_nonneg (by omega)]; omega
  have t2 : (k : Int).tmod 26 = ((k % 26 : Nat) : Int) := by rw [Int.tmod_eq_emod_of_nonneg (by omega)]; omega
  have I1 := Lib.hid (fun W => rletters_small (k / 26 - 1) (by omega) W)
  have hsl : ∀ W, (Instr.slice 9 (.string { data := #[65, 66, 67, 68, 69, 70, 71, 72, 73, 74, 75, 76, 77, 78, 79, 80, 81, 82, 83, 84, 85, 86, 87, 88, 89, 90] }) (some (.int .i64 ((k % 26 : Nat) : Int))) (some (.int .i64 (((k % 26 : Nat) : Int) + 1))) none).run Tryd.prog W = .ok (.string (letLit.extract (k % 26) (k % 26 + 1))) W := fun W => run_slice_str letLit (k % 26) (k % 26 + 1) (by omega) (by show k % 26 + 1 ≤ 26; omega) (by decide) W
  have EC : Hid ((letLit.extract (k / 26 - 1) (k / 26 - 1 + 1)).data.toList ++ (letLit.extract (k % 26) (k % 26 + 1)).data.toList = colN (k : Int)) := by
    unfold Hid
    rw [let_cut _ (by omega), let_cut _ (by omega)]
    unfold colN
    rw [if_neg (by omega), show (64 + (k : Int) / 26).toNat = 65 + (k / 26 - 1) by omega, show (65 + (k : Int) % 26).toNat = 65 + k % 26 by omega]
    rfl
  have z1 : (letLit.extract (k / 26 - 1) (k / 26 - 1 + 1)).size = 1 := by rw [bytes_size, let_cut _ (by omega)]; rfl
  have z2 : (letLit.extract (k % 26) (k % 26 + 1)).size = 1 := by rw [bytes_size, let_cut _ (by omega)]; rfl
  generalize letLit.extract (k / 26 - 1) (k / 26 - 1 + 1) = S1 at *
  generalize letLit.extract (k % 26) (k % 26 + 1) = S2 at *
  have kb : k / 26 - 1 ≤ 10 ∧ k % 26 < 26 := by omega
  generalize k / 26 - 1 = a at *
  generalize k % 26 = b at *
  have t1' : (k : Int).tdiv 26 = (a : Int) + 1 := by rw [t1]; omega
  have w0 : IntKind.i64.wrap ((a : Int) + 1) = (a : Int) + 1 := by rw [IntKind.wrap_i64]; omega
  have w5 : IntKind.i64.wrap (a : Int) = (a : Int) := by rw [IntKind.wrap_i64]; omega
  clear t1
  have w2 : IntKind.i64.wrap ((a : Int) + 1 - 1) = (a : Int) := by rw [IntKind.wrap_i64]; omega
  have w3 : IntKind.i64.wrap (b : Int) = (b : Int) := by rw [IntKind.wrap_i64]; omega
  have w4 : IntKind.i64.wrap ((b : Int) + 1) = (b : Int) + 1 := by rw [IntKind.wrap_i64]; omega
  obtain ⟨F, hF, lF⟩ := app_of S1 S2 _ _ rfl rfl
  have LF := Lib.hid lF
  clear lF kb
  go_enter Tryd.func35, Tryd.ntmps35
  go_wp2_with fail
  refine wp_region_held_drew (S := fun _ => True) (by kernel_rfl) trivial (fun hHeld => ?_)
  refine wpAnyH_take (i := 0) (v := .int .i64 (k : Int)) rfl (by kernel_rfl) (by kernel_rfl) (by kernel_rfl) (fun _ _ _ h => h) (Or.inl ⟨by rfl, ?_⟩) trivial ?_
  · intro w hSw; go_simp
  try simp only [Act.put, List.setIfInBounds_toArray]
  refine wpAnyH_take (i := 1) (v := .int .i64 ((a : Int) + 1)) rfl (by kernel_rfl) (by kernel_rfl) (by kernel_rfl) (fun _ _ _ h => h) (Or.inl ⟨by rfl, ?_⟩) trivial ?_
  · intro w hSw; go_simp
  try simp only [Act.put]
  refine wpAnyH_take (i := 2) (v := .int .i64 (a : Int)) rfl (by kernel_rfl) (by kernel_rfl) (by kernel_rfl) (fun _ _ _ h => h) (Or.inl ⟨by rfl, ?_⟩) trivial ?_
  · intro w hSw; go_simp
  try simp only [Act.put]
  refine wpAnyH_take (i := 4) (v := .int .i64 (k : Int)) rfl (by kernel_rfl) (by kernel_rfl) (by kernel_rfl) (fun _ _ _ h => h) (Or.inl ⟨by rfl, ?_⟩) trivial ?_
  · intro w hSw; go_simp
  try simp only [Act.put]
  refine wpAnyH_take (i := 5) (v := .int .i64 (b : Int)) rfl (by kernel_rfl) (by kernel_rfl) (by kernel_rfl) (fun _ _ _ h => h) (Or.inl ⟨by rfl, ?_⟩) trivial ?_
  · intro w hSw; go_simp
  try simp only [Act.put]
  refine wpAnyH_take (i := 6) (v := .int .i64 (k : Int)) rfl (by kernel_rfl) (by kernel_rfl) (by kernel_rfl) (fun _ _ _ h => h) (Or.inl ⟨by rfl, ?_⟩) trivial ?_
  · intro w hSw; go_simp
  try simp only [Act.put]
  refine wpAnyH_take (i := 7) (v := .int .i64 (b : Int)) rfl (by kernel_rfl) (by kernel_rfl) (by kernel_rfl) (fun _ _ _ h => h) (Or.inl ⟨by rfl, ?_⟩) trivial ?_
  · intro w hSw; go_simp
  try simp only [Act.put]
  refine wpAnyH_take (i := 8) (v := .int .i64 ((b : Int) + 1)) rfl (by kernel_rfl) (by kernel_rfl) (by kernel_rfl) (fun _ _ _ h => h) (Or.inl ⟨by rfl, ?_⟩) trivial ?_
  · intro w hSw; go_simp
  try simp only [Act.put]
  refine wpAnyH_take (i := 9) (v := .string S2) rfl (by kernel_rfl) (by kernel_rfl) (by kernel_rfl) (fun _ _ _ h => h) (Or.inl ⟨by rfl, ?_⟩) trivial ?_
  · intro w hSw; go_simp
  try simp only [Act.put]
  refine wpAnyH_ready (rs := [3]) (by kernel_rfl) (by simp) ?_
  refine AllReadyH.cons rfl (fun K hK => ?_) AllReadyH.nil
  go_simp
  refine (I1.out _).mono ?_
  rintro e w2 ⟨rfl, rfl⟩
  dsimp only
  refine hK.out _ _ trivial (fun hHeld => ?_)
  clear hK K
  try simp only [Act.put, List.setIfInBounds_toArray, List.set_cons_zero, List.set_cons_succ]
  refine wpAnyH_take (i := 10) (v := .string F) rfl (by kernel_rfl) (by kernel_rfl) (by kernel_rfl) (fun _ _ _ h => h) (Or.inl ⟨by rfl, ?_⟩) trivial ?_
  · intro w hSw; go_simp
  try simp only [Act.put, List.setIfInBounds_toArray]
  refine wpAnyH_ready (rs := [11]) (by kernel_rfl) (by simp) ?_
  refine AllReadyH.cons rfl (fun K hK => ?_) AllReadyH.nil
  go_simp
  refine hK.out _ _ trivial (fun hHeld => ?_)
  clear hK K
  try simp only [Act.put, List.setIfInBounds_toArray, List.set_cons_zero, List.set_cons_succ]
  refine wpAnyH_done (by kernel_rfl) ?_ _
  go_wp2
  go_ret
  exact ⟨⟨_, rfl, by rw [LF.out, EC.out]⟩, (Below.refl _ _).drew⟩
theorem rletters_any (k : Nat) (h : k < 64) (w : World) :
    Calls Tryd.prog 35 #[.int .i64 (k : Int)] w fun e w' => (∃ S : ByteArray, e = .returned (.string S) ∧ S.data.toList = colN (k : Int)) ∧ Below w.heap.size w w' := by
  by_cases h0 : k < 26
  · refine (rletters_small k h0 w).mono ?_
    rintro e w2 ⟨rfl, rfl⟩
    refine ⟨⟨_, rfl, ?_⟩, Below.refl _ _⟩
    rw [let_cut k h0]; unfold colN
    rw [if_pos (by omega), show (65 + (k : Int)).toNat = 65 + k by omega]
  · exact rletters_big k (by omega) h w
end Go.Proofs.YtikcggbkkgipoaaDoor
