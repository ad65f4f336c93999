/-
  CellTexts: walked.
-/
import Derived.Test.YtikcggbkkgipoaaDoorJ2
namespace Go.Proofs.YtikcggbkkgipoaaDoor
open Go.RowKit Go.Shelf

theorem parV_agg (l : List UInt8) : ∃ C R X Y E, parV l = ((Value.agg #[Value.int .i64 (C), Value.int .i64 (R), Value.bool X, Value.bool Y]), E) := by
  unfold parV parN
  split
  · exact ⟨_, _, _, _, _, rfl⟩
  · split
    · exact ⟨_, _, _, _, _, rfl⟩
    · split
      · exact ⟨_, _, _, _, _, rfl⟩
      · exact ⟨_, _, _, _, _, rfl⟩
theorem parse_to {s : ByteArray} {v : Value} {E : Int} (h : parV s.data.toList = (v, E)) (hs : s.size ≤ 1000) (W : World) : Calls Tryd.prog 10 #[.string s] W fun e w' => e = .returned (.tuple #[v, .int .i64 E]) ∧ Below W.heap.size W w' := by
  refine (parse_any s W hs).mono ?_
  rintro e w' ⟨rfl, hb⟩
  rw [h]; exact ⟨rfl, hb⟩
theorem rparse_to {s : ByteArray} {v : Value} {E : Int} (h : parV s.data.toList = (v, E)) (hs : s.size ≤ 1000) (W : World) : Calls Tryd.prog 11 #[.string s] W fun e w' => e = .returned (.tuple #[v, .int .i64 E]) ∧ Below W.heap.size W w' := by
  refine (rparse_any s W hs).mono ?_
  rintro e w' ⟨rfl, hb⟩
  rw [h]; exact ⟨rfl, hb⟩
theorem print_to (c r : Int) (x y : Bool) (W : World) (T : Tabs W) : Calls Tryd.prog 14 #[(Value.agg #[Value.int .i64 (c), Value.int .i64 (r), Value.bool x, Value.bool y])] W fun e w' => e = .returned (.string ⟨(prtV c r x y).toArray⟩) ∧ Below W.heap.size W w' := by
  refine (print_any c r x y W T).mono ?_
  rintro e w' ⟨S, rfl, hS, hb⟩
  rw [str_eq hS]; exact ⟨rfl, hb⟩
theorem rprint_to (c r : Int) (x y : Bool) (W : World) : Calls Tryd.prog 15 #[(Value.agg #[Value.int .i64 (c), Value.int .i64 (r), Value.bool x, Value.bool y])] W fun e w' => e = .returned (.string ⟨(prtV c r x y).toArray⟩) ∧ Below W.heap.size W w' := by
  refine (rprint_any c r x y W).mono ?_
  rintro e w' ⟨S, rfl, hS, hb⟩
  rw [str_eq hS]; exact ⟨rfl, hb⟩
set_option maxHeartbeats 4000000 in
theorem cellTexts_any (s : ByteArray) (c r : Int) (x y : Bool) (w : World) (T : Tabs w) :
    Calls Tryd.prog 3 #[.string s, (Value.agg #[Value.int .i64 (c), Value.int .i64 (r), Value.bool x, Value.bool y])] w fun en w' => en = .returned (.bool true) ∧ Below w.heap.size w w' := by
  have HT := Lib.hid T
  clear T
  by_cases hs : s.size ≤ 1000
  · have hs' : ¬ (1000 : Int) < (s.size : Int) := by omega
    obtain ⟨C, R, X, Y, E, hv⟩ := parV_agg s.data.toList
    have P1 := Lib.hid (parse_to hv hs)
    have P2 := Lib.hid (rparse_to hv hs)
    have R1 := Lib.hid (right_any c r x y)
    have R2 := Lib.hid (rright_any c r x y)
    have Q1 := Lib.hid (print_to c r x y)
    have Q2 := Lib.hid (rprint_to c r x y)
    generalize (⟨(prtV c r x y).toArray⟩ : ByteArray) = PS at *
    generalize rgt c r = k at *
    clear hv hs
    go_enter Tryd.func3, Tryd.ntmps3
    go_wp2_with fail
    generalize hal1 : w.alloc (.cells #[.int .i64 (c), .int .i64 (r), .bool x, .bool y] 23) = v1
    have hbn := al1 w (.cells #[.int .i64 (c), .int .i64 (r), .bool x, .bool y] 23)
    rw [hal1] at hbn
    have nbx := BoxR.new w c r x y
    rw [hal1] at nbx
    have nbz : w.heap.size < v1.heap.size := by rw [← hal1]; simp
    have HC1 := Lib.hid hbn
    have BX0 := Lib.hid nbx; have BZ0 := Lib.hid nbz
    clear nbx nbz
    clear hbn hal1
    refine (shown_any _ (HT.out.below HC1.out)).mono ?_
    rintro e v2 ⟨rfl, hbn⟩
    have HC2 := Lib.hid (via HC1.out hbn)
    clear HC1
    have bx := BX0.out.on hbn BZ0.out
    have bz : w.heap.size < v2.heap.size := by have := hbn.size; have := BZ0.out; omega
    clear BX0 BZ0
    have BX0 := Lib.hid bx; have BZ0 := Lib.hid bz
    clear bx bz
    clear hbn
    obtain ⟨o00, o01, o02, o03⟩ := BX0.out
    have m0 : w.heap.size < v2.heap.size := BZ0.out
    have m0n : w.heap.size ≠ v2.heap.size := Nat.ne_of_lt BZ0.out
    go_wp2_with fail
    refine (P1.out _).mono ?_
    rintro e v3 ⟨rfl, hbn⟩
    clear o00 o01 o02 o03 m0 m0n
    have HC3 := Lib.hid (via HC2.out hbn)
    clear HC2
    have bx := BX0.out.on hbn BZ0.out
    have bz : w.heap.size < v3.heap.size := by have := hbn.size; have := BZ0.out; omega
    clear BX0 BZ0
    have BX0 := Lib.hid bx; have BZ0 := Lib.hid bz
    clear bx bz
    clear hbn
    obtain ⟨o00, o01, o02, o03⟩ := BX0.out
    have m0 : w.heap.size < v3.heap.size := BZ0.out
    have m0n : w.heap.size ≠ v3.heap.size := Nat.ne_of_lt BZ0.out
    go_wp2_with fail
    generalize hal4 : v3.alloc (.cells #[.int .i64 (C), .int .i64 (R), .bool X, .bool Y] 23) = v4
    have hbn := al1 v3 (.cells #[.int .i64 (C), .int .i64 (R), .bool X, .bool Y] 23)
    rw [hal4] at hbn
    have nbx := BoxR.new v3 C R X Y
    rw [hal4] at nbx
    have nbz : v3.heap.size < v4.heap.size := by rw [← hal4]; simp
    clear o00 o01 o02 o03 m0 m0n
    have HC4 := Lib.hid (via HC3.out hbn)
    clear HC3
    have bx := BX0.out.on hbn BZ0.out
    have bz : w.heap.size < v4.heap.size := by have := hbn.size; have := BZ0.out; omega
    clear BX0 BZ0
    have BX0 := Lib.hid bx; have BZ0 := Lib.hid bz
    clear bx bz
    obtain ⟨p4, hp4⟩ : ∃ b, v3.heap.size = b := ⟨_, rfl⟩
    rw [hp4] at nbx nbz ⊢
    have BX1 := Lib.hid nbx; have BZ1 := Lib.hid nbz
    clear nbx nbz hp4
    clear hbn hal4
    obtain ⟨o00, o01, o02, o03⟩ := BX0.out
    have m0 : w.heap.size < v4.heap.size := BZ0.out
    have m0n : w.heap.size ≠ v4.heap.size := Nat.ne_of_lt BZ0.out
    obtain ⟨o10, o11, o12, o13⟩ := BX1.out
    have m1 : p4 < v4.heap.size := BZ1.out
    have m1n : p4 ≠ v4.heap.size := Nat.ne_of_lt BZ1.out
    refine (P2.out _).mono ?_
    rintro e v5 ⟨rfl, hbn⟩
    clear o00 o01 o02 o03 m0 m0n o10 o11 o12 o13 m1 m1n
    have HC5 := Lib.hid (via HC4.out hbn)
    clear HC4
    have bx := BX0.out.on hbn BZ0.out
    have bz : w.heap.size < v5.heap.size := by have := hbn.size; have := BZ0.out; omega
    clear BX0 BZ0
    have BX0 := Lib.hid bx; have BZ0 := Lib.hid bz
    clear bx bz
    have bx := BX1.out.on hbn BZ1.out
    have bz : p4 < v5.heap.size := by have := hbn.size; have := BZ1.out; omega
    clear BX1 BZ1
    have BX1 := Lib.hid bx; have BZ1 := Lib.hid bz
    clear bx bz
    clear hbn
    obtain ⟨o00, o01, o02, o03⟩ := BX0.out
    have m0 : w.heap.size < v5.heap.size := BZ0.out
    have m0n : w.heap.size ≠ v5.heap.size := Nat.ne_of_lt BZ0.out
    obtain ⟨o10, o11, o12, o13⟩ := BX1.out
    have m1 : p4 < v5.heap.size := BZ1.out
    have m1n : p4 ≠ v5.heap.size := Nat.ne_of_lt BZ1.out
    go_wp2_with fail
    generalize hal6 : v5.alloc (.cells #[.int .i64 (C), .int .i64 (R), .bool X, .bool Y] 23) = v6
    have hbn := al1 v5 (.cells #[.int .i64 (C), .int .i64 (R), .bool X, .bool Y] 23)
    rw [hal6] at hbn
    have nbx := BoxR.new v5 C R X Y
    rw [hal6] at nbx
    have nbz : v5.heap.size < v6.heap.size := by rw [← hal6]; simp
    clear o00 o01 o02 o03 m0 m0n o10 o11 o12 o13 m1 m1n
    have HC6 := Lib.hid (via HC5.out hbn)
    clear HC5
    have bx := BX0.out.on hbn BZ0.out
    have bz : w.heap.size < v6.heap.size := by have := hbn.size; have := BZ0.out; omega
    clear BX0 BZ0
    have BX0 := Lib.hid bx; have BZ0 := Lib.hid bz
    clear bx bz
    have bx := BX1.out.on hbn BZ1.out
    have bz : p4 < v6.heap.size := by have := hbn.size; have := BZ1.out; omega
    clear BX1 BZ1
    have BX1 := Lib.hid bx; have BZ1 := Lib.hid bz
    clear bx bz
    obtain ⟨p6, hp6⟩ : ∃ b, v5.heap.size = b := ⟨_, rfl⟩
    rw [hp6] at nbx nbz ⊢
    have BX2 := Lib.hid nbx; have BZ2 := Lib.hid nbz
    clear nbx nbz hp6
    clear hbn hal6
    obtain ⟨o00, o01, o02, o03⟩ := BX0.out
    have m0 : w.heap.size < v6.heap.size := BZ0.out
    have m0n : w.heap.size ≠ v6.heap.size := Nat.ne_of_lt BZ0.out
    obtain ⟨o10, o11, o12, o13⟩ := BX1.out
    have m1 : p4 < v6.heap.size := BZ1.out
    have m1n : p4 ≠ v6.heap.size := Nat.ne_of_lt BZ1.out
    obtain ⟨o20, o21, o22, o23⟩ := BX2.out
    have m2 : p6 < v6.heap.size := BZ2.out
    have m2n : p6 ≠ v6.heap.size := Nat.ne_of_lt BZ2.out
    have keepS : ∀ A Z : World, ((A.cell? ⟨w.heap.size, 0, none⟩ = some (.int .i64 c) ∧ A.cell? ⟨w.heap.size, 1, none⟩ = some (.int .i64 r) ∧ A.cell? ⟨w.heap.size, 2, none⟩ = some (.bool x) ∧ A.cell? ⟨w.heap.size, 3, none⟩ = some (.bool y) ∧ A.cell? ⟨p4, 0, none⟩ = some (.int .i64 C) ∧ A.cell? ⟨p4, 1, none⟩ = some (.int .i64 R) ∧ A.cell? ⟨p4, 2, none⟩ = some (.bool X) ∧ A.cell? ⟨p4, 3, none⟩ = some (.bool Y) ∧ A.cell? ⟨p6, 0, none⟩ = some (.int .i64 C) ∧ A.cell? ⟨p6, 1, none⟩ = some (.int .i64 R) ∧ A.cell? ⟨p6, 2, none⟩ = some (.bool X) ∧ A.cell? ⟨p6, 3, none⟩ = some (.bool Y)) ∧ ((w.heap.size < A.heap.size ∧ p4 < A.heap.size ∧ p6 < A.heap.size) ∧ Below w.heap.size w A)) → Below A.heap.size A Z → ((Z.cell? ⟨w.heap.size, 0, none⟩ = some (.int .i64 c) ∧ Z.cell? ⟨w.heap.size, 1, none⟩ = some (.int .i64 r) ∧ Z.cell? ⟨w.heap.size, 2, none⟩ = some (.bool x) ∧ Z.cell? ⟨w.heap.size, 3, none⟩ = some (.bool y) ∧ Z.cell? ⟨p4, 0, none⟩ = some (.int .i64 C) ∧ Z.cell? ⟨p4, 1, none⟩ = some (.int .i64 R) ∧ Z.cell? ⟨p4, 2, none⟩ = some (.bool X) ∧ Z.cell? ⟨p4, 3, none⟩ = some (.bool Y) ∧ Z.cell? ⟨p6, 0, none⟩ = some (.int .i64 C) ∧ Z.cell? ⟨p6, 1, none⟩ = some (.int .i64 R) ∧ Z.cell? ⟨p6, 2, none⟩ = some (.bool X) ∧ Z.cell? ⟨p6, 3, none⟩ = some (.bool Y)) ∧ ((w.heap.size < Z.heap.size ∧ p4 < Z.heap.size ∧ p6 < Z.heap.size) ∧ Below w.heap.size w Z)) := by
      rintro A Z ⟨hc, ⟨l0, l1, l2⟩, hb⟩ hx
      have hz := hx.size
      refine ⟨?_, ⟨by omega, by omega, by omega⟩, via hb hx⟩
      simp only [hx.cell (p := ⟨w.heap.size, _, none⟩) l0, hx.cell (p := ⟨p4, _, none⟩) l1, hx.cell (p := ⟨p6, _, none⟩) l2]
      exact hc
    have KS := Lib.hid keepS
    clear keepS
    have TB := Lib.hid (fun (W : World) (h : (W.cell? ⟨w.heap.size, 0, none⟩ = some (.int .i64 c) ∧ W.cell? ⟨w.heap.size, 1, none⟩ = some (.int .i64 r) ∧ W.cell? ⟨w.heap.size, 2, none⟩ = some (.bool x) ∧ W.cell? ⟨w.heap.size, 3, none⟩ = some (.bool y) ∧ W.cell? ⟨p4, 0, none⟩ = some (.int .i64 C) ∧ W.cell? ⟨p4, 1, none⟩ = some (.int .i64 R) ∧ W.cell? ⟨p4, 2, none⟩ = some (.bool X) ∧ W.cell? ⟨p4, 3, none⟩ = some (.bool Y) ∧ W.cell? ⟨p6, 0, none⟩ = some (.int .i64 C) ∧ W.cell? ⟨p6, 1, none⟩ = some (.int .i64 R) ∧ W.cell? ⟨p6, 2, none⟩ = some (.bool X) ∧ W.cell? ⟨p6, 3, none⟩ = some (.bool Y)) ∧ ((w.heap.size < W.heap.size ∧ p4 < W.heap.size ∧ p6 < W.heap.size) ∧ Below w.heap.size w W)) => (HT.out.below h.2.2 : Tabs W))
    have FIN := Lib.hid (fun (W : World) (h : (W.cell? ⟨w.heap.size, 0, none⟩ = some (.int .i64 c) ∧ W.cell? ⟨w.heap.size, 1, none⟩ = some (.int .i64 r) ∧ W.cell? ⟨w.heap.size, 2, none⟩ = some (.bool x) ∧ W.cell? ⟨w.heap.size, 3, none⟩ = some (.bool y) ∧ W.cell? ⟨p4, 0, none⟩ = some (.int .i64 C) ∧ W.cell? ⟨p4, 1, none⟩ = some (.int .i64 R) ∧ W.cell? ⟨p4, 2, none⟩ = some (.bool X) ∧ W.cell? ⟨p4, 3, none⟩ = some (.bool Y) ∧ W.cell? ⟨p6, 0, none⟩ = some (.int .i64 C) ∧ W.cell? ⟨p6, 1, none⟩ = some (.int .i64 R) ∧ W.cell? ⟨p6, 2, none⟩ = some (.bool X) ∧ W.cell? ⟨p6, 3, none⟩ = some (.bool Y)) ∧ ((w.heap.size < W.heap.size ∧ p4 < W.heap.size ∧ p6 < W.heap.size) ∧ Below w.heap.size w W)) => h.2.2)
    have ST : (v6.cell? ⟨w.heap.size, 0, none⟩ = some (.int .i64 c) ∧ v6.cell? ⟨w.heap.size, 1, none⟩ = some (.int .i64 r) ∧ v6.cell? ⟨w.heap.size, 2, none⟩ = some (.bool x) ∧ v6.cell? ⟨w.heap.size, 3, none⟩ = some (.bool y) ∧ v6.cell? ⟨p4, 0, none⟩ = some (.int .i64 C) ∧ v6.cell? ⟨p4, 1, none⟩ = some (.int .i64 R) ∧ v6.cell? ⟨p4, 2, none⟩ = some (.bool X) ∧ v6.cell? ⟨p4, 3, none⟩ = some (.bool Y) ∧ v6.cell? ⟨p6, 0, none⟩ = some (.int .i64 C) ∧ v6.cell? ⟨p6, 1, none⟩ = some (.int .i64 R) ∧ v6.cell? ⟨p6, 2, none⟩ = some (.bool X) ∧ v6.cell? ⟨p6, 3, none⟩ = some (.bool Y)) ∧ ((w.heap.size < v6.heap.size ∧ p4 < v6.heap.size ∧ p6 < v6.heap.size) ∧ Below w.heap.size w v6) := ⟨⟨o00, o01, o02, o03, o10, o11, o12, o13, o20, o21, o22, o23⟩, ⟨m0, m1, m2⟩, HC6.out⟩
    have ST := Lib.hid ST
    clear o00 o01 o02 o03 m0 m0n o10 o11 o12 o13 m1 m1n o20 o21 o22 o23 m2 m2n
    go_wp2
    go_region_held3 (fun W => (W.cell? ⟨w.heap.size, 0, none⟩ = some (.int .i64 c) ∧ W.cell? ⟨w.heap.size, 1, none⟩ = some (.int .i64 r) ∧ W.cell? ⟨w.heap.size, 2, none⟩ = some (.bool x) ∧ W.cell? ⟨w.heap.size, 3, none⟩ = some (.bool y) ∧ W.cell? ⟨p4, 0, none⟩ = some (.int .i64 C) ∧ W.cell? ⟨p4, 1, none⟩ = some (.int .i64 R) ∧ W.cell? ⟨p4, 2, none⟩ = some (.bool X) ∧ W.cell? ⟨p4, 3, none⟩ = some (.bool Y) ∧ W.cell? ⟨p6, 0, none⟩ = some (.int .i64 C) ∧ W.cell? ⟨p6, 1, none⟩ = some (.int .i64 R) ∧ W.cell? ⟨p6, 2, none⟩ = some (.bool X) ∧ W.cell? ⟨p6, 3, none⟩ = some (.bool Y)) ∧ ((w.heap.size < W.heap.size ∧ p4 < W.heap.size ∧ p6 < W.heap.size) ∧ Below w.heap.size w W)) (first | exact ⟨ST.out.1, ST.out.2.1, ST.out.2.2.drew⟩ | exact KS.out _ _ (by assumption) (by assumption)) (first | (go_at_call 12; refine (R1.out _).mono ?_; rintro e wz ⟨rfl, hbz⟩) | (go_at_call 13; refine (R2.out _).mono ?_; rintro e wz ⟨rfl, hbz⟩) | (go_at_call 14; refine (Q1.out _ (TB.out _ (by assumption))).mono ?_; rintro e wz ⟨rfl, hbz⟩) | (go_at_call 15; refine (Q2.out _).mono ?_; rintro e wz ⟨rfl, hbz⟩))
    all_goals
      go_wp2
      go_ret
      exact ⟨rfl, FIN.out _ (by assumption)⟩
  · have hs' : (1000 : Int) < (s.size : Int) := by omega
    clear hs
    go_enter Tryd.func3, Tryd.ntmps3
    go_wp2_with fail
    generalize hal1 : w.alloc (.cells #[.int .i64 (c), .int .i64 (r), .bool x, .bool y] 23) = v1
    have hbn := al1 w (.cells #[.int .i64 (c), .int .i64 (r), .bool x, .bool y] 23)
    rw [hal1] at hbn
    have nbx := BoxR.new w c r x y
    rw [hal1] at nbx
    have nbz : w.heap.size < v1.heap.size := by rw [← hal1]; simp
    have HC1 := Lib.hid hbn
    have BX0 := Lib.hid nbx; have BZ0 := Lib.hid nbz
    clear nbx nbz
    clear hbn hal1
    refine (shown_any _ (HT.out.below HC1.out)).mono ?_
    rintro e v2 ⟨rfl, hbn⟩
    have HC2 := Lib.hid (via HC1.out hbn)
    clear HC1
    have bx := BX0.out.on hbn BZ0.out
    have bz : w.heap.size < v2.heap.size := by have := hbn.size; have := BZ0.out; omega
    clear BX0 BZ0
    have BX0 := Lib.hid bx; have BZ0 := Lib.hid bz
    clear bx bz
    clear hbn
    obtain ⟨o00, o01, o02, o03⟩ := BX0.out
    have m0 : w.heap.size < v2.heap.size := BZ0.out
    have m0n : w.heap.size ≠ v2.heap.size := Nat.ne_of_lt BZ0.out
    try go_wp2
    go_ret
    exact ⟨rfl, HC2.out⟩

end Go.Proofs.YtikcggbkkgipoaaDoor
