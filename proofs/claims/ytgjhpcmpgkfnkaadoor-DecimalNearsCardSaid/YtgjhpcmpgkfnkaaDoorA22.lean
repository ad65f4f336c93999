/-
  The chapter's examples.
-/
import Derived.Test.YtgjhpcmpgkfnkaaDoorA21
namespace Go.Proofs.YtgjhpcmpgkfnkaaDoor
open Go.RowKit Go.Shelf

theorem dec_any (b : Bool) (s : ByteArray) (x : Int) (w : World) : Calls Tryd.prog 26 #[.bool b, .string s, .int .i64 x] w fun e w' => e = .returned (.agg #[.bool b, .string s, .int .i64 x]) ∧ Below w.heap.size w w' := by
  go_enter Tryd.func26, Tryd.ntmps26
  go_wp2
  refine bodyPost_ret (v := .agg #[.bool b, .string s, .int .i64 x]) (by simp [results, Tryd.results26, go_sem, *]) rfl ⟨rfl, by (repeat' first | exact Below.refl _ _ | assumption | refine Below.drew ?_ | refine Below.alloc ?_ ?_ _ | refine Below.setCell ?_ ?_ _ | refine below_drewN ?_ _ | (simp; done) | omega | (simp; omega))⟩
theorem ex_a (w : World) : Calls Tryd.prog 10 #[.bool false, .string ⟨#[48, 48, 49, 50, 48]⟩, .int .i64 3] w fun e w' => e = .returned (.tuple #[(.agg #[.bool false, .string ⟨#[49, 50]⟩, .int .i64 (4)]), .int .i64 0]) ∧ Below w.heap.size w w' := by
  have h := make_any false ⟨#[48, 48, 49, 50, 48]⟩ 3 w (by decide) (by decide) (by decide)
  have q : makeV false (⟨#[48, 48, 49, 50, 48]⟩ : ByteArray).data.toList 3 = ((.agg #[.bool false, .string ⟨#[49, 50]⟩, .int .i64 (4)]), 0) := by kernel_rfl
  rw [q] at h; exact h
theorem ex_b (w : World) : Calls Tryd.prog 10 #[.bool true, .string ⟨#[48, 48, 48]⟩, .int .i64 7] w fun e w' => e = .returned (.tuple #[(.agg #[.bool true, .string ⟨#[]⟩, .int .i64 (0)]), .int .i64 0]) ∧ Below w.heap.size w w' := by
  have h := make_any true ⟨#[48, 48, 48]⟩ 7 w (by decide) (by decide) (by decide)
  have q : makeV true (⟨#[48, 48, 48]⟩ : ByteArray).data.toList 7 = ((.agg #[.bool true, .string ⟨#[]⟩, .int .i64 (0)]), 0) := by kernel_rfl
  rw [q] at h; exact h
theorem ex_g (w : World) : Calls Tryd.prog 10 #[.bool false, .string ⟨#[49, 120]⟩, .int .i64 0] w fun e w' => e = .returned (.tuple #[(.agg #[.bool false, .string ⟨#[]⟩, .int .i64 (0)]), .int .i64 3]) ∧ Below w.heap.size w w' := by
  have h := make_any false ⟨#[49, 120]⟩ 0 w (by decide) (by decide) (by decide)
  have q : makeV false (⟨#[49, 120]⟩ : ByteArray).data.toList 0 = ((.agg #[.bool false, .string ⟨#[]⟩, .int .i64 (0)]), 3) := by kernel_rfl
  rw [q] at h; exact h
theorem ex_h (w : World) : Calls Tryd.prog 10 #[.bool false, .string ⟨#[49]⟩, .int .i64 100001] w fun e w' => e = .returned (.tuple #[(.agg #[.bool false, .string ⟨#[]⟩, .int .i64 (0)]), .int .i64 2]) ∧ Below w.heap.size w w' := by
  have h := make_any false ⟨#[49]⟩ 100001 w (by decide) (by decide) (by decide)
  have q : makeV false (⟨#[49]⟩ : ByteArray).data.toList 100001 = ((.agg #[.bool false, .string ⟨#[]⟩, .int .i64 (0)]), 2) := by kernel_rfl
  rw [q] at h; exact h
theorem ex_c (w : World) : Calls Tryd.prog 18 #[(.agg #[.bool false, .string ⟨#[49, 50, 51, 52, 53]⟩, .int .i64 (0)]), .int .i64 (3), .int .i64 0] w fun e w' => e = .returned (.tuple #[(.agg #[.bool false, .string ⟨#[49, 50, 51]⟩, .int .i64 (2)]), .int .i64 0]) ∧ Below w.heap.size w w' := by
  have h := sig_any false ⟨#[49, 50, 51, 52, 53]⟩ (0) (3) 0 w (by decide)
  have q : sigV false (⟨#[49, 50, 51, 52, 53]⟩ : ByteArray).data.toList (0) (3) 0 = ((.agg #[.bool false, .string ⟨#[49, 50, 51]⟩, .int .i64 (2)]), 0) := by kernel_rfl
  rw [q] at h; exact h
theorem ex_d (w : World) : Calls Tryd.prog 18 #[(.agg #[.bool false, .string ⟨#[49, 50, 51, 53]⟩, .int .i64 (1)]), .int .i64 (3), .int .i64 0] w fun e w' => e = .returned (.tuple #[(.agg #[.bool false, .string ⟨#[49, 50, 52]⟩, .int .i64 (2)]), .int .i64 0]) ∧ Below w.heap.size w w' := by
  have h := sig_any false ⟨#[49, 50, 51, 53]⟩ (1) (3) 0 w (by decide)
  have q : sigV false (⟨#[49, 50, 51, 53]⟩ : ByteArray).data.toList (1) (3) 0 = ((.agg #[.bool false, .string ⟨#[49, 50, 52]⟩, .int .i64 (2)]), 0) := by kernel_rfl
  rw [q] at h; exact h
theorem ex_k (w : World) : Calls Tryd.prog 18 #[(.agg #[.bool true, .string ⟨#[49, 50, 51, 53]⟩, .int .i64 (1)]), .int .i64 (3), .int .i64 4] w fun e w' => e = .returned (.tuple #[(.agg #[.bool true, .string ⟨#[49, 50, 52]⟩, .int .i64 (2)]), .int .i64 0]) ∧ Below w.heap.size w w' := by
  have h := sig_any true ⟨#[49, 50, 51, 53]⟩ (1) (3) 4 w (by decide)
  have q : sigV true (⟨#[49, 50, 51, 53]⟩ : ByteArray).data.toList (1) (3) 4 = ((.agg #[.bool true, .string ⟨#[49, 50, 52]⟩, .int .i64 (2)]), 0) := by kernel_rfl
  rw [q] at h; exact h
theorem ex_m (w : World) : Calls Tryd.prog 18 #[(.agg #[.bool false, .string ⟨#[57, 57, 57]⟩, .int .i64 (-2)]), .int .i64 (1), .int .i64 3] w fun e w' => e = .returned (.tuple #[(.agg #[.bool false, .string ⟨#[49]⟩, .int .i64 (1)]), .int .i64 0]) ∧ Below w.heap.size w w' := by
  have h := sig_any false ⟨#[57, 57, 57]⟩ (-2) (1) 3 w (by decide)
  have q : sigV false (⟨#[57, 57, 57]⟩ : ByteArray).data.toList (-2) (1) 3 = ((.agg #[.bool false, .string ⟨#[49]⟩, .int .i64 (1)]), 0) := by kernel_rfl
  rw [q] at h; exact h
theorem ex_o (w : World) : Calls Tryd.prog 20 #[(.agg #[.bool false, .string ⟨#[50, 53]⟩, .int .i64 (-1)]), .int .i64 (0), .int .i64 0] w fun e w' => e = .returned (.tuple #[(.agg #[.bool false, .string ⟨#[50]⟩, .int .i64 (0)]), .int .i64 0]) ∧ Below w.heap.size w w' := by
  have h := place_any false ⟨#[50, 53]⟩ (-1) (0) 0 w (by decide)
  have q : placeV false (⟨#[50, 53]⟩ : ByteArray).data.toList (-1) (0) 0 = ((.agg #[.bool false, .string ⟨#[50]⟩, .int .i64 (0)]), 0) := by kernel_rfl
  rw [q] at h; exact h
theorem ex_q (w : World) : Calls Tryd.prog 20 #[(.agg #[.bool true, .string ⟨#[52]⟩, .int .i64 (-1)]), .int .i64 (0), .int .i64 1] w fun e w' => e = .returned (.tuple #[(.agg #[.bool true, .string ⟨#[]⟩, .int .i64 (0)]), .int .i64 0]) ∧ Below w.heap.size w w' := by
  have h := place_any true ⟨#[52]⟩ (-1) (0) 1 w (by decide)
  have q : placeV true (⟨#[52]⟩ : ByteArray).data.toList (-1) (0) 1 = ((.agg #[.bool true, .string ⟨#[]⟩, .int .i64 (0)]), 0) := by kernel_rfl
  rw [q] at h; exact h
theorem ex_s (w : World) : Calls Tryd.prog 20 #[(.agg #[.bool false, .string ⟨#[49, 50, 53]⟩, .int .i64 (1)]), .int .i64 (-2), .int .i64 0] w fun e w' => e = .returned (.tuple #[(.agg #[.bool false, .string ⟨#[49, 50]⟩, .int .i64 (2)]), .int .i64 0]) ∧ Below w.heap.size w w' := by
  have h := place_any false ⟨#[49, 50, 53]⟩ (1) (-2) 0 w (by decide)
  have q : placeV false (⟨#[49, 50, 53]⟩ : ByteArray).data.toList (1) (-2) 0 = ((.agg #[.bool false, .string ⟨#[49, 50]⟩, .int .i64 (2)]), 0) := by kernel_rfl
  rw [q] at h; exact h
theorem ex_u (w : World) : Calls Tryd.prog 20 #[(.agg #[.bool false, .string ⟨#[49]⟩, .int .i64 (-3)]), .int .i64 (2), .int .i64 5] w fun e w' => e = .returned (.tuple #[(.agg #[.bool false, .string ⟨#[49]⟩, .int .i64 (-2)]), .int .i64 0]) ∧ Below w.heap.size w w' := by
  have h := place_any false ⟨#[49]⟩ (-3) (2) 5 w (by decide)
  have q : placeV false (⟨#[49]⟩ : ByteArray).data.toList (-3) (2) 5 = ((.agg #[.bool false, .string ⟨#[49]⟩, .int .i64 (-2)]), 0) := by kernel_rfl
  rw [q] at h; exact h
theorem ex_w (w : World) : Calls Tryd.prog 22 #[.string ⟨#[45, 49, 50, 46, 53, 48, 101, 45, 51]⟩] w fun e w' => e = .returned (.tuple #[(.agg #[.bool true, .string ⟨#[49, 50, 53]⟩, .int .i64 (-4)]), .int .i64 0]) ∧ Below w.heap.size w w' := by
  have h := parse_any ⟨#[45, 49, 50, 46, 53, 48, 101, 45, 51]⟩ w (by decide)
  have q : parV (⟨#[45, 49, 50, 46, 53, 48, 101, 45, 51]⟩ : ByteArray).data.toList = ((.agg #[.bool true, .string ⟨#[49, 50, 53]⟩, .int .i64 (-4)]), 0) := by kernel_rfl
  rw [q] at h; exact h
theorem ex_y (w : World) : Calls Tryd.prog 22 #[.string ⟨#[46, 53]⟩] w fun e w' => e = .returned (.tuple #[(.agg #[.bool false, .string ⟨#[53]⟩, .int .i64 (-1)]), .int .i64 0]) ∧ Below w.heap.size w w' := by
  have h := parse_any ⟨#[46, 53]⟩ w (by decide)
  have q : parV (⟨#[46, 53]⟩ : ByteArray).data.toList = ((.agg #[.bool false, .string ⟨#[53]⟩, .int .i64 (-1)]), 0) := by kernel_rfl
  rw [q] at h; exact h
theorem ex_aa (w : World) : Calls Tryd.prog 22 #[.string ⟨#[53, 46]⟩] w fun e w' => e = .returned (.tuple #[(.agg #[.bool false, .string ⟨#[53]⟩, .int .i64 (0)]), .int .i64 0]) ∧ Below w.heap.size w w' := by
  have h := parse_any ⟨#[53, 46]⟩ w (by decide)
  have q : parV (⟨#[53, 46]⟩ : ByteArray).data.toList = ((.agg #[.bool false, .string ⟨#[53]⟩, .int .i64 (0)]), 0) := by kernel_rfl
  rw [q] at h; exact h
theorem ex_cc (w : World) : Calls Tryd.prog 22 #[.string ⟨#[46]⟩] w fun e w' => e = .returned (.tuple #[(.agg #[.bool false, .string ⟨#[]⟩, .int .i64 (0)]), .int .i64 3]) ∧ Below w.heap.size w w' := by
  have h := parse_any ⟨#[46]⟩ w (by decide)
  have q : parV (⟨#[46]⟩ : ByteArray).data.toList = ((.agg #[.bool false, .string ⟨#[]⟩, .int .i64 (0)]), 3) := by kernel_rfl
  rw [q] at h; exact h
theorem ex_dd (w : World) : Calls Tryd.prog 22 #[.string ⟨#[49, 101]⟩] w fun e w' => e = .returned (.tuple #[(.agg #[.bool false, .string ⟨#[]⟩, .int .i64 (0)]), .int .i64 3]) ∧ Below w.heap.size w w' := by
  have h := parse_any ⟨#[49, 101]⟩ w (by decide)
  have q : parV (⟨#[49, 101]⟩ : ByteArray).data.toList = ((.agg #[.bool false, .string ⟨#[]⟩, .int .i64 (0)]), 3) := by kernel_rfl
  rw [q] at h; exact h
theorem ex_ee (w : World) : Calls Tryd.prog 22 #[.string ⟨#[43, 49]⟩] w fun e w' => e = .returned (.tuple #[(.agg #[.bool false, .string ⟨#[]⟩, .int .i64 (0)]), .int .i64 3]) ∧ Below w.heap.size w w' := by
  have h := parse_any ⟨#[43, 49]⟩ w (by decide)
  have q : parV (⟨#[43, 49]⟩ : ByteArray).data.toList = ((.agg #[.bool false, .string ⟨#[]⟩, .int .i64 (0)]), 3) := by kernel_rfl
  rw [q] at h; exact h
theorem it7 : Lib.itoa (-7) = [45, 55] := by
  unfold Lib.itoa; rw [if_pos (by decide)]; show 45 :: Lib.decDigits 7 = _; rw [Lib.decDigits_one (by decide)]; rfl
theorem it21 : Lib.itoa 21 = [50, 49] := by
  unfold Lib.itoa; rw [if_neg (by decide)]; show Lib.decDigits 21 = _; rw [Lib.decDigits, dif_neg (by decide), Lib.decDigits_one (by decide)]; rfl
theorem ex_p0 (w : World) (T : Tabs w) : Calls Tryd.prog 24 #[(.agg #[.bool false, .string ⟨#[49, 50, 51]⟩, .int .i64 (0)])] w fun e w' => e = .returned (.string ⟨#[49, 50, 51]⟩) ∧ Below w.heap.size w w' := by
  refine (print_any false ⟨#[49, 50, 51]⟩ (0) w (by decide) T).mono ?_
  rintro e w' ⟨Q, rfl, hQ, hb⟩
  have q : printT false (⟨#[49, 50, 51]⟩ : ByteArray).data.toList (0) = [49, 50, 51] := by kernel_rfl
  rw [q] at hQ
  refine ⟨?_, hb⟩
  obtain ⟨⟨L⟩⟩ := Q
  have : L = [49, 50, 51] := hQ
  subst this; rfl
theorem ex_p1 (w : World) (T : Tabs w) : Calls Tryd.prog 24 #[(.agg #[.bool false, .string ⟨#[49, 50, 51]⟩, .int .i64 (-1)])] w fun e w' => e = .returned (.string ⟨#[49, 50, 46, 51]⟩) ∧ Below w.heap.size w w' := by
  refine (print_any false ⟨#[49, 50, 51]⟩ (-1) w (by decide) T).mono ?_
  rintro e w' ⟨Q, rfl, hQ, hb⟩
  have q : printT false (⟨#[49, 50, 51]⟩ : ByteArray).data.toList (-1) = [49, 50, 46, 51] := by kernel_rfl
  rw [q] at hQ
  refine ⟨?_, hb⟩
  obtain ⟨⟨L⟩⟩ := Q
  have : L = [49, 50, 46, 51] := hQ
  subst this; rfl
theorem ex_p3 (w : World) (T : Tabs w) : Calls Tryd.prog 24 #[(.agg #[.bool false, .string ⟨#[49, 50, 51]⟩, .int .i64 (-3)])] w fun e w' => e = .returned (.string ⟨#[48, 46, 49, 50, 51]⟩) ∧ Below w.heap.size w w' := by
  refine (print_any false ⟨#[49, 50, 51]⟩ (-3) w (by decide) T).mono ?_
  rintro e w' ⟨Q, rfl, hQ, hb⟩
  have q : printT false (⟨#[49, 50, 51]⟩ : ByteArray).data.toList (-3) = [48, 46, 49, 50, 51] := by kernel_rfl
  rw [q] at hQ
  refine ⟨?_, hb⟩
  obtain ⟨⟨L⟩⟩ := Q
  have : L = [48, 46, 49, 50, 51] := hQ
  subst this; rfl
theorem ex_p8 (w : World) (T : Tabs w) : Calls Tryd.prog 24 #[(.agg #[.bool false, .string ⟨#[49, 50, 51]⟩, .int .i64 (-8)])] w fun e w' => e = .returned (.string ⟨#[48, 46, 48, 48, 48, 48, 48, 49, 50, 51]⟩) ∧ Below w.heap.size w w' := by
  refine (print_any false ⟨#[49, 50, 51]⟩ (-8) w (by decide) T).mono ?_
  rintro e w' ⟨Q, rfl, hQ, hb⟩
  have q : printT false (⟨#[49, 50, 51]⟩ : ByteArray).data.toList (-8) = [48, 46, 48, 48, 48, 48, 48, 49, 50, 51] := by kernel_rfl
  rw [q] at hQ
  refine ⟨?_, hb⟩
  obtain ⟨⟨L⟩⟩ := Q
  have : L = [48, 46, 48, 48, 48, 48, 48, 49, 50, 51] := hQ
  subst this; rfl
theorem ex_p9 (w : World) (T : Tabs w) : Calls Tryd.prog 24 #[(.agg #[.bool false, .string ⟨#[49, 50, 51]⟩, .int .i64 (-9)])] w fun e w' => e = .returned (.string ⟨#[49, 46, 50, 51, 101, 45, 55]⟩) ∧ Below w.heap.size w w' := by
  refine (print_any false ⟨#[49, 50, 51]⟩ (-9) w (by decide) T).mono ?_
  rintro e w' ⟨Q, rfl, hQ, hb⟩
  have q : printT false (⟨#[49, 50, 51]⟩ : ByteArray).data.toList (-9) = [49, 46, 50, 51, 101, 45, 55] := by 
    have e : printT false [49, 50, 51] (-9) = [49, 46, 50, 51, 101] ++ Lib.itoa (-7) := by kernel_rfl
    rw [it7] at e; exact e
  rw [q] at hQ
  refine ⟨?_, hb⟩
  obtain ⟨⟨L⟩⟩ := Q
  have : L = [49, 46, 50, 51, 101, 45, 55] := hQ
  subst this; rfl
theorem ex_p18 (w : World) (T : Tabs w) : Calls Tryd.prog 24 #[(.agg #[.bool false, .string ⟨#[49, 50, 51]⟩, .int .i64 (18)])] w fun e w' => e = .returned (.string ⟨#[49, 50, 51, 48, 48, 48, 48, 48, 48, 48, 48, 48, 48, 48, 48, 48, 48, 48, 48, 48, 48]⟩) ∧ Below w.heap.size w w' := by
  refine (print_any false ⟨#[49, 50, 51]⟩ (18) w (by decide) T).mono ?_
  rintro e w' ⟨Q, rfl, hQ, hb⟩
  have q : printT false (⟨#[49, 50, 51]⟩ : ByteArray).data.toList (18) = [49, 50, 51, 48, 48, 48, 48, 48, 48, 48, 48, 48, 48, 48, 48, 48, 48, 48, 48, 48, 48] := by kernel_rfl
  rw [q] at hQ
  refine ⟨?_, hb⟩
  obtain ⟨⟨L⟩⟩ := Q
  have : L = [49, 50, 51, 48, 48, 48, 48, 48, 48, 48, 48, 48, 48, 48, 48, 48, 48, 48, 48, 48, 48] := hQ
  subst this; rfl
theorem ex_p19 (w : World) (T : Tabs w) : Calls Tryd.prog 24 #[(.agg #[.bool false, .string ⟨#[49, 50, 51]⟩, .int .i64 (19)])] w fun e w' => e = .returned (.string ⟨#[49, 46, 50, 51, 101, 43, 50, 49]⟩) ∧ Below w.heap.size w w' := by
  refine (print_any false ⟨#[49, 50, 51]⟩ (19) w (by decide) T).mono ?_
  rintro e w' ⟨Q, rfl, hQ, hb⟩
  have q : printT false (⟨#[49, 50, 51]⟩ : ByteArray).data.toList (19) = [49, 46, 50, 51, 101, 43, 50, 49] := by 
    have e : printT false [49, 50, 51] 19 = [49, 46, 50, 51, 101, 43] ++ Lib.itoa 21 := by kernel_rfl
    rw [it21] at e; exact e
  rw [q] at hQ
  refine ⟨?_, hb⟩
  obtain ⟨⟨L⟩⟩ := Q
  have : L = [49, 46, 50, 51, 101, 43, 50, 49] := hQ
  subst this; rfl
end Go.Proofs.YtgjhpcmpgkfnkaaDoor
