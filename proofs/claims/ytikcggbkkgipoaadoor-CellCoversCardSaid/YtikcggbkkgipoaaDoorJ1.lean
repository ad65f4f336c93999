/-
  CellMoves: walked.
-/
import Derived.Test.YtikcggbkkgipoaaDoorH2
namespace Go.Proofs.YtikcggbkkgipoaaDoor
open Go.RowKit Go.Shelf

theorem mvV_agg (c r d e : Int) (x y : Bool) : ∃ C R X Y, mvV c r d e x y = (Value.agg #[Value.int .i64 (C), Value.int .i64 (R), Value.bool X, Value.bool Y]) := by
  unfold mvV
  by_cases h : mvOk c r d e x y = true
  · exact ⟨_, _, _, _, if_pos h⟩
  · exact ⟨_, _, _, _, if_neg h⟩
set_option maxHeartbeats 2000000 in
theorem cellMoves_any (c r d e : Int) (x y : Bool) (d0 : -9223372036854775808 ≤ d) (d1 : d ≤ 9223372036854775807) (e0 : -9223372036854775808 ≤ e) (e1 : e ≤ 9223372036854775807) (w : World) (T : Tabs w) :
    Calls Tryd.prog 5 #[(Value.agg #[Value.int .i64 (c), Value.int .i64 (r), Value.bool x, Value.bool y]), .int .i64 d, .int .i64 e] w fun en w' => en = .returned (.bool true) ∧ Below w.heap.size w w' := by
  have M1 := Lib.hid (fun W => moved_any c r d e x y d0 d1 e0 e1 W)
  have M2 := Lib.hid (fun W => rmovedR_any c r d e x y d0 d1 e0 e1 W)
  obtain ⟨C, R, X, Y, hv⟩ := mvV_agg c r d e x y
  rw [hv] at M1 M2
  generalize mvOk c r d e x y = k at *
  have HT := Lib.hid T
  clear T hv d0 d1 e0 e1
  go_enter Tryd.func5, Tryd.ntmps5
  go_wp2_with fail
  generalize hal1 : w.alloc (.cells #[.int .i64 (c), .int .i64 (r), .bool x, .bool y] 23) = v1
  have hbn := al1 w (.cells #[.int .i64 (c), .int .i64 (r), .bool x, .bool y] 23)
  rw [hal1] at hbn
  have nbx := BoxR.new w c r x y
  rw [hal1] at nbx
  have nbz : w.heap.size < v1.heap.size := by rw [← hal1]; simp
  have HC1 := Lib.hid hbn
  have BX0 := Lib.hid nbx; have BZ0 := Lib.hid nbz
  clear nbx nbz
  clear hbn hal1
  refine (shown_any _ (HT.out.below HC1.out)).mono ?_
  rintro e v2 ⟨rfl, hbn⟩
  have HC2 := Lib.hid (via HC1.out hbn)
  clear HC1
  have bx := BX0.out.on hbn BZ0.out
  have bz : w.heap.size < v2.heap.size := by have := hbn.size; have := BZ0.out; omega
  clear BX0 BZ0
  have BX0 := Lib.hid bx; have BZ0 := Lib.hid bz
  clear bx bz
  clear hbn
  obtain ⟨o00, o01, o02, o03⟩ := BX0.out
  have m0 : w.heap.size < v2.heap.size := BZ0.out
  have m0n : w.heap.size ≠ v2.heap.size := Nat.ne_of_lt BZ0.out
  go_wp2_with fail
  refine (M1.out _).mono ?_
  rintro e v3 ⟨rfl, hbn⟩
  clear o00 o01 o02 o03 m0 m0n
  have HC3 := Lib.hid (via HC2.out hbn)
  clear HC2
  have bx := BX0.out.on hbn BZ0.out
  have bz : w.heap.size < v3.heap.size := by have := hbn.size; have := BZ0.out; omega
  clear BX0 BZ0
  have BX0 := Lib.hid bx; have BZ0 := Lib.hid bz
  clear bx bz
  clear hbn
  obtain ⟨o00, o01, o02, o03⟩ := BX0.out
  have m0 : w.heap.size < v3.heap.size := BZ0.out
  have m0n : w.heap.size ≠ v3.heap.size := Nat.ne_of_lt BZ0.out
  go_wp2_with fail
  generalize hal4 : v3.alloc (.cells #[.int .i64 (C), .int .i64 (R), .bool X, .bool Y] 23) = v4
  have hbn := al1 v3 (.cells #[.int .i64 (C), .int .i64 (R), .bool X, .bool Y] 23)
  rw [hal4] at hbn
  have nbx := BoxR.new v3 C R X Y
  rw [hal4] at nbx
  have nbz : v3.heap.size < v4.heap.size := by rw [← hal4]; simp
  clear o00 o01 o02 o03 m0 m0n
  have HC4 := Lib.hid (via HC3.out hbn)
  clear HC3
  have bx := BX0.out.on hbn BZ0.out
  have bz : w.heap.size < v4.heap.size := by have := hbn.size; have := BZ0.out; omega
  clear BX0 BZ0
  have BX0 := Lib.hid bx; have BZ0 := Lib.hid bz
  clear bx bz
  obtain ⟨p4, hp4⟩ : ∃ b, v3.heap.size = b := ⟨_, rfl⟩
  rw [hp4] at nbx nbz ⊢
  have BX1 := Lib.hid nbx; have BZ1 := Lib.hid nbz
  clear nbx nbz hp4
  clear hbn hal4
  obtain ⟨o00, o01, o02, o03⟩ := BX0.out
  have m0 : w.heap.size < v4.heap.size := BZ0.out
  have m0n : w.heap.size ≠ v4.heap.size := Nat.ne_of_lt BZ0.out
  obtain ⟨o10, o11, o12, o13⟩ := BX1.out
  have m1 : p4 < v4.heap.size := BZ1.out
  have m1n : p4 ≠ v4.heap.size := Nat.ne_of_lt BZ1.out
  refine (M2.out _).mono ?_
  rintro e v5 ⟨rfl, hbn⟩
  clear o00 o01 o02 o03 m0 m0n o10 o11 o12 o13 m1 m1n
  have HC5 := Lib.hid (via HC4.out hbn)
  clear HC4
  have bx := BX0.out.on hbn BZ0.out
  have bz : w.heap.size < v5.heap.size := by have := hbn.size; have := BZ0.out; omega
  clear BX0 BZ0
  have BX0 := Lib.hid bx; have BZ0 := Lib.hid bz
  clear bx bz
  have bx := BX1.out.on hbn BZ1.out
  have bz : p4 < v5.heap.size := by have := hbn.size; have := BZ1.out; omega
  clear BX1 BZ1
  have BX1 := Lib.hid bx; have BZ1 := Lib.hid bz
  clear bx bz
  clear hbn
  obtain ⟨o00, o01, o02, o03⟩ := BX0.out
  have m0 : w.heap.size < v5.heap.size := BZ0.out
  have m0n : w.heap.size ≠ v5.heap.size := Nat.ne_of_lt BZ0.out
  obtain ⟨o10, o11, o12, o13⟩ := BX1.out
  have m1 : p4 < v5.heap.size := BZ1.out
  have m1n : p4 ≠ v5.heap.size := Nat.ne_of_lt BZ1.out
  go_wp2_with fail
  generalize hal6 : v5.alloc (.cells #[.int .i64 (C), .int .i64 (R), .bool X, .bool Y] 23) = v6
  have hbn := al1 v5 (.cells #[.int .i64 (C), .int .i64 (R), .bool X, .bool Y] 23)
  rw [hal6] at hbn
  have nbx := BoxR.new v5 C R X Y
  rw [hal6] at nbx
  have nbz : v5.heap.size < v6.heap.size := by rw [← hal6]; simp
  clear o00 o01 o02 o03 m0 m0n o10 o11 o12 o13 m1 m1n
  have HC6 := Lib.hid (via HC5.out hbn)
  clear HC5
  have bx := BX0.out.on hbn BZ0.out
  have bz : w.heap.size < v6.heap.size := by have := hbn.size; have := BZ0.out; omega
  clear BX0 BZ0
  have BX0 := Lib.hid bx; have BZ0 := Lib.hid bz
  clear bx bz
  have bx := BX1.out.on hbn BZ1.out
  have bz : p4 < v6.heap.size := by have := hbn.size; have := BZ1.out; omega
  clear BX1 BZ1
  have BX1 := Lib.hid bx; have BZ1 := Lib.hid bz
  clear bx bz
  obtain ⟨p6, hp6⟩ : ∃ b, v5.heap.size = b := ⟨_, rfl⟩
  rw [hp6] at nbx nbz ⊢
  have BX2 := Lib.hid nbx; have BZ2 := Lib.hid nbz
  clear nbx nbz hp6
  clear hbn hal6
  obtain ⟨o00, o01, o02, o03⟩ := BX0.out
  have m0 : w.heap.size < v6.heap.size := BZ0.out
  have m0n : w.heap.size ≠ v6.heap.size := Nat.ne_of_lt BZ0.out
  obtain ⟨o10, o11, o12, o13⟩ := BX1.out
  have m1 : p4 < v6.heap.size := BZ1.out
  have m1n : p4 ≠ v6.heap.size := Nat.ne_of_lt BZ1.out
  obtain ⟨o20, o21, o22, o23⟩ := BX2.out
  have m2 : p6 < v6.heap.size := BZ2.out
  have m2n : p6 ≠ v6.heap.size := Nat.ne_of_lt BZ2.out
  try go_wp2
  go_ret
  exact ⟨rfl, HC6.out⟩
end Go.Proofs.YtikcggbkkgipoaaDoor
