/-
  CellThere: walked.
-/
import Derived.Test.YtikcggbkkgipoaaDoorJ1
namespace Go.Proofs.YtikcggbkkgipoaaDoor
open Go.RowKit Go.Shelf

theorem mvd_back {a d n : Int} {f : Bool} (a0 : 0 ≤ a) (a1 : a < n) (h0 : 0 ≤ mvd a d f n) : mvd (mvd a d f n) (-d) f n = a ∧ (f = true → mvd a d f n = a) := by
  unfold mvd at *
  cases f
  · simp only [Bool.false_eq_true, if_false] at h0 ⊢
    by_cases h : 0 ≤ a + d ∧ a + d < n
    · rw [if_pos h]
      refine ⟨?_, fun h => h.elim⟩
      rw [if_pos (by omega)]; omega
    · rw [if_neg h] at h0; omega
  · simp
theorem there_math {c r d e : Int} {x y : Bool} (h : mvOk c r d e x y = true) :
    ∃ C R, mvV c r d e x y = (Value.agg #[Value.int .i64 (C), Value.int .i64 (R), Value.bool x, Value.bool y]) ∧ (x = true → C = c) ∧ (y = true → R = r) ∧ mvOk C R (-d) (-e) x y = true ∧ mvV C R (-d) (-e) x y = (Value.agg #[Value.int .i64 (c), Value.int .i64 (r), Value.bool x, Value.bool y]) := by
  have h' := h
  unfold mvOk at h'
  rw [Bool.and_eq_true] at h'
  obtain ⟨h1, h2⟩ := h'
  obtain ⟨c0, c1, r0, r1⟩ := rgt_iff.1 h1
  obtain ⟨C0, C1, R0, R1⟩ := rgt_iff.1 h2
  obtain ⟨b1, b2⟩ := mvd_back c0 c1 C0
  obtain ⟨b3, b4⟩ := mvd_back r0 r1 R0
  refine ⟨mvd c d x 64, mvd r e y 1000, if_pos h, b2, b4, ?_, ?_⟩
  · unfold mvOk; rw [h2, b1, b3, h1]; rfl
  · unfold mvV mvOk; rw [h2, b1, b3, h1]; exact if_pos rfl
theorem there_none {c r d e : Int} {x y : Bool} (h : mvOk c r d e x y = false) : mvV c r d e x y = (Value.agg #[Value.int .i64 (0), Value.int .i64 (0), Value.bool false, Value.bool false]) := if_neg (by rw [h]; simp)
set_option maxHeartbeats 4000000 in
theorem cellThere_any (c r d e : Int) (x y : Bool) (d0 : -9223372036854775808 ≤ d) (d1 : d ≤ 9223372036854775807) (e0 : -9223372036854775808 ≤ e) (e1 : e ≤ 9223372036854775807) (w : World) (T : Tabs w) :
    Calls Tryd.prog 8 #[(Value.agg #[Value.int .i64 (c), Value.int .i64 (r), Value.bool x, Value.bool y]), .int .i64 d, .int .i64 e] w fun en w' => en = .returned (.bool true) ∧ Below w.heap.size w w' := by
  have M1 := Lib.hid (fun W => moved_any c r d e x y d0 d1 e0 e1 W)
  have HT := Lib.hid T
  clear T
  by_cases g : mvOk c r d e x y = true
  · obtain ⟨C, R, hv, hx, hy, hk, hb⟩ := there_math g
    have M3 := Lib.hid (fun (h1 : -1000 ≤ d) (h2 : d ≤ 1000) (h3 : -1000 ≤ e) (h4 : e ≤ 1000) W => moved_any C R (-d) (-e) x y (by omega) (by omega) (by omega) (by omega) W)
    rw [hv, g] at M1
    rw [hk, hb] at M3
    have NE : Hid (-1000 ≤ d → d ≤ 1000 → -1000 ≤ e → e ≤ 1000 → IntKind.i64.wrap (-d) = -d ∧ IntKind.i64.wrap (-e) = -e) := fun h1 h2 h3 h4 => by
      constructor <;> (rw [IntKind.wrap_i64]; omega)
    clear hv hk hb g d0 d1 e0 e1
    cases x <;> cases y
    · skip
      clear hx
      clear hy
      by_cases q1 : d < -1000
      · skip
        go_enter Tryd.func8, Tryd.ntmps8
        go_wp2_with fail
        generalize hal1 : w.alloc (.cells #[.int .i64 (c), .int .i64 (r), .bool false, .bool false] 23) = v1
        have hbn := al1 w (.cells #[.int .i64 (c), .int .i64 (r), .bool false, .bool false] 23)
        rw [hal1] at hbn
        have nbx := BoxR.new w c r false false
        rw [hal1] at nbx
        have nbz : w.heap.size < v1.heap.size := by rw [← hal1]; simp
        have HC1 := Lib.hid hbn
        have BX0 := Lib.hid nbx; have BZ0 := Lib.hid nbz
        clear nbx nbz
        clear hbn hal1
        refine (shown_any _ (HT.out.below HC1.out)).mono ?_
        rintro e v2 ⟨rfl, hbn⟩
        have HC2 := Lib.hid (via HC1.out hbn)
        clear HC1
        have bx := BX0.out.on hbn BZ0.out
        have bz : w.heap.size < v2.heap.size := by have := hbn.size; have := BZ0.out; omega
        clear BX0 BZ0
        have BX0 := Lib.hid bx; have BZ0 := Lib.hid bz
        clear bx bz
        clear hbn
        obtain ⟨o00, o01, o02, o03⟩ := BX0.out
        have m0 : w.heap.size < v2.heap.size := BZ0.out
        have m0n : w.heap.size ≠ v2.heap.size := Nat.ne_of_lt BZ0.out
        go_wp2_with fail
        refine (M1.out _).mono ?_
        rintro e v3 ⟨rfl, hbn⟩
        clear o00 o01 o02 o03 m0 m0n
        have HC3 := Lib.hid (via HC2.out hbn)
        clear HC2
        have bx := BX0.out.on hbn BZ0.out
        have bz : w.heap.size < v3.heap.size := by have := hbn.size; have := BZ0.out; omega
        clear BX0 BZ0
        have BX0 := Lib.hid bx; have BZ0 := Lib.hid bz
        clear bx bz
        clear hbn
        obtain ⟨o00, o01, o02, o03⟩ := BX0.out
        have m0 : w.heap.size < v3.heap.size := BZ0.out
        have m0n : w.heap.size ≠ v3.heap.size := Nat.ne_of_lt BZ0.out
        go_wp2_with fail
        generalize hal4 : v3.alloc (.cells #[.int .i64 (C), .int .i64 (R), .bool false, .bool false] 23) = v4
        have hbn := al1 v3 (.cells #[.int .i64 (C), .int .i64 (R), .bool false, .bool false] 23)
        rw [hal4] at hbn
        have nbx := BoxR.new v3 C R false false
        rw [hal4] at nbx
        have nbz : v3.heap.size < v4.heap.size := by rw [← hal4]; simp
        clear o00 o01 o02 o03 m0 m0n
        have HC4 := Lib.hid (via HC3.out hbn)
        clear HC3
        have bx := BX0.out.on hbn BZ0.out
        have bz : w.heap.size < v4.heap.size := by have := hbn.size; have := BZ0.out; omega
        clear BX0 BZ0
        have BX0 := Lib.hid bx; have BZ0 := Lib.hid bz
        clear bx bz
        obtain ⟨p4, hp4⟩ : ∃ b, v3.heap.size = b := ⟨_, rfl⟩
        rw [hp4] at nbx nbz ⊢
        have BX1 := Lib.hid nbx; have BZ1 := Lib.hid nbz
        clear nbx nbz hp4
        clear hbn hal4
        obtain ⟨o00, o01, o02, o03⟩ := BX0.out
        have m0 : w.heap.size < v4.heap.size := BZ0.out
        have m0n : w.heap.size ≠ v4.heap.size := Nat.ne_of_lt BZ0.out
        obtain ⟨o10, o11, o12, o13⟩ := BX1.out
        have m1 : p4 < v4.heap.size := BZ1.out
        have m1n : p4 ≠ v4.heap.size := Nat.ne_of_lt BZ1.out
        try go_wp2
        go_ret
        exact ⟨rfl, HC4.out⟩
      · skip
        by_cases q2 : 1000 < d
        · skip
          go_enter Tryd.func8, Tryd.ntmps8
          go_wp2_with fail
          generalize hal1 : w.alloc (.cells #[.int .i64 (c), .int .i64 (r), .bool false, .bool false] 23) = v1
          have hbn := al1 w (.cells #[.int .i64 (c), .int .i64 (r), .bool false, .bool false] 23)
          rw [hal1] at hbn
          have nbx := BoxR.new w c r false false
          rw [hal1] at nbx
          have nbz : w.heap.size < v1.heap.size := by rw [← hal1]; simp
          have HC1 := Lib.hid hbn
          have BX0 := Lib.hid nbx; have BZ0 := Lib.hid nbz
          clear nbx nbz
          clear hbn hal1
          refine (shown_any _ (HT.out.below HC1.out)).mono ?_
          rintro e v2 ⟨rfl, hbn⟩
          have HC2 := Lib.hid (via HC1.out hbn)
          clear HC1
          have bx := BX0.out.on hbn BZ0.out
          have bz : w.heap.size < v2.heap.size := by have := hbn.size; have := BZ0.out; omega
          clear BX0 BZ0
          have BX0 := Lib.hid bx; have BZ0 := Lib.hid bz
          clear bx bz
          clear hbn
          obtain ⟨o00, o01, o02, o03⟩ := BX0.out
          have m0 : w.heap.size < v2.heap.size := BZ0.out
          have m0n : w.heap.size ≠ v2.heap.size := Nat.ne_of_lt BZ0.out
          go_wp2_with fail
          refine (M1.out _).mono ?_
          rintro e v3 ⟨rfl, hbn⟩
          clear o00 o01 o02 o03 m0 m0n
          have HC3 := Lib.hid (via HC2.out hbn)
          clear HC2
          have bx := BX0.out.on hbn BZ0.out
          have bz : w.heap.size < v3.heap.size := by have := hbn.size; have := BZ0.out; omega
          clear BX0 BZ0
          have BX0 := Lib.hid bx; have BZ0 := Lib.hid bz
          clear bx bz
          clear hbn
          obtain ⟨o00, o01, o02, o03⟩ := BX0.out
          have m0 : w.heap.size < v3.heap.size := BZ0.out
          have m0n : w.heap.size ≠ v3.heap.size := Nat.ne_of_lt BZ0.out
          go_wp2_with fail
          generalize hal4 : v3.alloc (.cells #[.int .i64 (C), .int .i64 (R), .bool false, .bool false] 23) = v4
          have hbn := al1 v3 (.cells #[.int .i64 (C), .int .i64 (R), .bool false, .bool false] 23)
          rw [hal4] at hbn
          have nbx := BoxR.new v3 C R false false
          rw [hal4] at nbx
          have nbz : v3.heap.size < v4.heap.size := by rw [← hal4]; simp
          clear o00 o01 o02 o03 m0 m0n
          have HC4 := Lib.hid (via HC3.out hbn)
          clear HC3
          have bx := BX0.out.on hbn BZ0.out
          have bz : w.heap.size < v4.heap.size := by have := hbn.size; have := BZ0.out; omega
          clear BX0 BZ0
          have BX0 := Lib.hid bx; have BZ0 := Lib.hid bz
          clear bx bz
          obtain ⟨p4, hp4⟩ : ∃ b, v3.heap.size = b := ⟨_, rfl⟩
          rw [hp4] at nbx nbz ⊢
          have BX1 := Lib.hid nbx; have BZ1 := Lib.hid nbz
          clear nbx nbz hp4
          clear hbn hal4
          obtain ⟨o00, o01, o02, o03⟩ := BX0.out
          have m0 : w.heap.size < v4.heap.size := BZ0.out
          have m0n : w.heap.size ≠ v4.heap.size := Nat.ne_of_lt BZ0.out
          obtain ⟨o10, o11, o12, o13⟩ := BX1.out
          have m1 : p4 < v4.heap.size := BZ1.out
          have m1n : p4 ≠ v4.heap.size := Nat.ne_of_lt BZ1.out
          try go_wp2
          go_ret
          exact ⟨rfl, HC4.out⟩
        · skip
          by_cases q3 : e < -1000
          · skip
            go_enter Tryd.func8, Tryd.ntmps8
            go_wp2_with fail
            generalize hal1 : w.alloc (.cells #[.int .i64 (c), .int .i64 (r), .bool false, .bool false] 23) = v1
            have hbn := al1 w (.cells #[.int .i64 (c), .int .i64 (r), .bool false, .bool false] 23)
            rw [hal1] at hbn
            have nbx := BoxR.new w c r false false
            rw [hal1] at nbx
            have nbz : w.heap.size < v1.heap.size := by rw [← hal1]; simp
            have HC1 := Lib.hid hbn
            have BX0 := Lib.hid nbx; have BZ0 := Lib.hid nbz
            clear nbx nbz
            clear hbn hal1
            refine (shown_any _ (HT.out.below HC1.out)).mono ?_
            rintro e v2 ⟨rfl, hbn⟩
            have HC2 := Lib.hid (via HC1.out hbn)
            clear HC1
            have bx := BX0.out.on hbn BZ0.out
            have bz : w.heap.size < v2.heap.size := by have := hbn.size; have := BZ0.out; omega
            clear BX0 BZ0
            have BX0 := Lib.hid bx; have BZ0 := Lib.hid bz
            clear bx bz
            clear hbn
            obtain ⟨o00, o01, o02, o03⟩ := BX0.out
            have m0 : w.heap.size < v2.heap.size := BZ0.out
            have m0n : w.heap.size ≠ v2.heap.size := Nat.ne_of_lt BZ0.out
            go_wp2_with fail
            refine (M1.out _).mono ?_
            rintro e v3 ⟨rfl, hbn⟩
            clear o00 o01 o02 o03 m0 m0n
            have HC3 := Lib.hid (via HC2.out hbn)
            clear HC2
            have bx := BX0.out.on hbn BZ0.out
            have bz : w.heap.size < v3.heap.size := by have := hbn.size; have := BZ0.out; omega
            clear BX0 BZ0
            have BX0 := Lib.hid bx; have BZ0 := Lib.hid bz
            clear bx bz
            clear hbn
            obtain ⟨o00, o01, o02, o03⟩ := BX0.out
            have m0 : w.heap.size < v3.heap.size := BZ0.out
            have m0n : w.heap.size ≠ v3.heap.size := Nat.ne_of_lt BZ0.out
            go_wp2_with fail
            generalize hal4 : v3.alloc (.cells #[.int .i64 (C), .int .i64 (R), .bool false, .bool false] 23) = v4
            have hbn := al1 v3 (.cells #[.int .i64 (C), .int .i64 (R), .bool false, .bool false] 23)
            rw [hal4] at hbn
            have nbx := BoxR.new v3 C R false false
            rw [hal4] at nbx
            have nbz : v3.heap.size < v4.heap.size := by rw [← hal4]; simp
            clear o00 o01 o02 o03 m0 m0n
            have HC4 := Lib.hid (via HC3.out hbn)
            clear HC3
            have bx := BX0.out.on hbn BZ0.out
            have bz : w.heap.size < v4.heap.size := by have := hbn.size; have := BZ0.out; omega
            clear BX0 BZ0
            have BX0 := Lib.hid bx; have BZ0 := Lib.hid bz
            clear bx bz
            obtain ⟨p4, hp4⟩ : ∃ b, v3.heap.size = b := ⟨_, rfl⟩
            rw [hp4] at nbx nbz ⊢
            have BX1 := Lib.hid nbx; have BZ1 := Lib.hid nbz
            clear nbx nbz hp4
            clear hbn hal4
            obtain ⟨o00, o01, o02, o03⟩ := BX0.out
            have m0 : w.heap.size < v4.heap.size := BZ0.out
            have m0n : w.heap.size ≠ v4.heap.size := Nat.ne_of_lt BZ0.out
            obtain ⟨o10, o11, o12, o13⟩ := BX1.out
            have m1 : p4 < v4.heap.size := BZ1.out
            have m1n : p4 ≠ v4.heap.size := Nat.ne_of_lt BZ1.out
            try go_wp2
            go_ret
            exact ⟨rfl, HC4.out⟩
          · skip
            by_cases q4 : 1000 < e
            · skip
              go_enter Tryd.func8, Tryd.ntmps8
              go_wp2_with fail
              generalize hal1 : w.alloc (.cells #[.int .i64 (c), .int .i64 (r), .bool false, .bool false] 23) = v1
              have hbn := al1 w (.cells #[.int .i64 (c), .int .i64 (r), .bool false, .bool false] 23)
              rw [hal1] at hbn
              have nbx := BoxR.new w c r false false
              rw [hal1] at nbx
              have nbz : w.heap.size < v1.heap.size := by rw [← hal1]; simp
              have HC1 := Lib.hid hbn
              have BX0 := Lib.hid nbx; have BZ0 := Lib.hid nbz
              clear nbx nbz
              clear hbn hal1
              refine (shown_any _ (HT.out.below HC1.out)).mono ?_
              rintro e v2 ⟨rfl, hbn⟩
              have HC2 := Lib.hid (via HC1.out hbn)
              clear HC1
              have bx := BX0.out.on hbn BZ0.out
              have bz : w.heap.size < v2.heap.size := by have := hbn.size; have := BZ0.out; omega
              clear BX0 BZ0
              have BX0 := Lib.hid bx; have BZ0 := Lib.hid bz
              clear bx bz
              clear hbn
              obtain ⟨o00, o01, o02, o03⟩ := BX0.out
              have m0 : w.heap.size < v2.heap.size := BZ0.out
              have m0n : w.heap.size ≠ v2.heap.size := Nat.ne_of_lt BZ0.out
              go_wp2_with fail
              refine (M1.out _).mono ?_
              rintro e v3 ⟨rfl, hbn⟩
              clear o00 o01 o02 o03 m0 m0n
              have HC3 := Lib.hid (via HC2.out hbn)
              clear HC2
              have bx := BX0.out.on hbn BZ0.out
              have bz : w.heap.size < v3.heap.size := by have := hbn.size; have := BZ0.out; omega
              clear BX0 BZ0
              have BX0 := Lib.hid bx; have BZ0 := Lib.hid bz
              clear bx bz
              clear hbn
              obtain ⟨o00, o01, o02, o03⟩ := BX0.out
              have m0 : w.heap.size < v3.heap.size := BZ0.out
              have m0n : w.heap.size ≠ v3.heap.size := Nat.ne_of_lt BZ0.out
              go_wp2_with fail
              generalize hal4 : v3.alloc (.cells #[.int .i64 (C), .int .i64 (R), .bool false, .bool false] 23) = v4
              have hbn := al1 v3 (.cells #[.int .i64 (C), .int .i64 (R), .bool false, .bool false] 23)
              rw [hal4] at hbn
              have nbx := BoxR.new v3 C R false false
              rw [hal4] at nbx
              have nbz : v3.heap.size < v4.heap.size := by rw [← hal4]; simp
              clear o00 o01 o02 o03 m0 m0n
              have HC4 := Lib.hid (via HC3.out hbn)
              clear HC3
              have bx := BX0.out.on hbn BZ0.out
              have bz : w.heap.size < v4.heap.size := by have := hbn.size; have := BZ0.out; omega
              clear BX0 BZ0
              have BX0 := Lib.hid bx; have BZ0 := Lib.hid bz
              clear bx bz
              obtain ⟨p4, hp4⟩ : ∃ b, v3.heap.size = b := ⟨_, rfl⟩
              rw [hp4] at nbx nbz ⊢
              have BX1 := Lib.hid nbx; have BZ1 := Lib.hid nbz
              clear nbx nbz hp4
              clear hbn hal4
              obtain ⟨o00, o01, o02, o03⟩ := BX0.out
              have m0 : w.heap.size < v4.heap.size := BZ0.out
              have m0n : w.heap.size ≠ v4.heap.size := Nat.ne_of_lt BZ0.out
              obtain ⟨o10, o11, o12, o13⟩ := BX1.out
              have m1 : p4 < v4.heap.size := BZ1.out
              have m1n : p4 ≠ v4.heap.size := Nat.ne_of_lt BZ1.out
              try go_wp2
              go_ret
              exact ⟨rfl, HC4.out⟩
            · skip
              have h1 : -1000 ≤ d := by omega
              have h2 : d ≤ 1000 := by omega
              have h3 : -1000 ≤ e := by omega
              have h4 : e ≤ 1000 := by omega
              obtain ⟨w1, w2⟩ := NE.out h1 h2 h3 h4
              go_enter Tryd.func8, Tryd.ntmps8
              go_wp2_with fail
              generalize hal1 : w.alloc (.cells #[.int .i64 (c), .int .i64 (r), .bool false, .bool false] 23) = v1
              have hbn := al1 w (.cells #[.int .i64 (c), .int .i64 (r), .bool false, .bool false] 23)
              rw [hal1] at hbn
              have nbx := BoxR.new w c r false false
              rw [hal1] at nbx
              have nbz : w.heap.size < v1.heap.size := by rw [← hal1]; simp
              have HC1 := Lib.hid hbn
              have BX0 := Lib.hid nbx; have BZ0 := Lib.hid nbz
              clear nbx nbz
              clear hbn hal1
              refine (shown_any _ (HT.out.below HC1.out)).mono ?_
              rintro e v2 ⟨rfl, hbn⟩
              have HC2 := Lib.hid (via HC1.out hbn)
              clear HC1
              have bx := BX0.out.on hbn BZ0.out
              have bz : w.heap.size < v2.heap.size := by have := hbn.size; have := BZ0.out; omega
              clear BX0 BZ0
              have BX0 := Lib.hid bx; have BZ0 := Lib.hid bz
              clear bx bz
              clear hbn
              obtain ⟨o00, o01, o02, o03⟩ := BX0.out
              have m0 : w.heap.size < v2.heap.size := BZ0.out
              have m0n : w.heap.size ≠ v2.heap.size := Nat.ne_of_lt BZ0.out
              go_wp2_with fail
              refine (M1.out _).mono ?_
              rintro e v3 ⟨rfl, hbn⟩
              clear o00 o01 o02 o03 m0 m0n
              have HC3 := Lib.hid (via HC2.out hbn)
              clear HC2
              have bx := BX0.out.on hbn BZ0.out
              have bz : w.heap.size < v3.heap.size := by have := hbn.size; have := BZ0.out; omega
              clear BX0 BZ0
              have BX0 := Lib.hid bx; have BZ0 := Lib.hid bz
              clear bx bz
              clear hbn
              obtain ⟨o00, o01, o02, o03⟩ := BX0.out
              have m0 : w.heap.size < v3.heap.size := BZ0.out
              have m0n : w.heap.size ≠ v3.heap.size := Nat.ne_of_lt BZ0.out
              go_wp2_with fail
              generalize hal4 : v3.alloc (.cells #[.int .i64 (C), .int .i64 (R), .bool false, .bool false] 23) = v4
              have hbn := al1 v3 (.cells #[.int .i64 (C), .int .i64 (R), .bool false, .bool false] 23)
              rw [hal4] at hbn
              have nbx := BoxR.new v3 C R false false
              rw [hal4] at nbx
              have nbz : v3.heap.size < v4.heap.size := by rw [← hal4]; simp
              clear o00 o01 o02 o03 m0 m0n
              have HC4 := Lib.hid (via HC3.out hbn)
              clear HC3
              have bx := BX0.out.on hbn BZ0.out
              have bz : w.heap.size < v4.heap.size := by have := hbn.size; have := BZ0.out; omega
              clear BX0 BZ0
              have BX0 := Lib.hid bx; have BZ0 := Lib.hid bz
              clear bx bz
              obtain ⟨p4, hp4⟩ : ∃ b, v3.heap.size = b := ⟨_, rfl⟩
              rw [hp4] at nbx nbz ⊢
              have BX1 := Lib.hid nbx; have BZ1 := Lib.hid nbz
              clear nbx nbz hp4
              clear hbn hal4
              obtain ⟨o00, o01, o02, o03⟩ := BX0.out
              have m0 : w.heap.size < v4.heap.size := BZ0.out
              have m0n : w.heap.size ≠ v4.heap.size := Nat.ne_of_lt BZ0.out
              obtain ⟨o10, o11, o12, o13⟩ := BX1.out
              have m1 : p4 < v4.heap.size := BZ1.out
              have m1n : p4 ≠ v4.heap.size := Nat.ne_of_lt BZ1.out
              refine (M3.out h1 h2 h3 h4 _).mono ?_
              rintro e v5 ⟨rfl, hbn⟩
              clear o00 o01 o02 o03 m0 m0n o10 o11 o12 o13 m1 m1n
              have HC5 := Lib.hid (via HC4.out hbn)
              clear HC4
              have bx := BX0.out.on hbn BZ0.out
              have bz : w.heap.size < v5.heap.size := by have := hbn.size; have := BZ0.out; omega
              clear BX0 BZ0
              have BX0 := Lib.hid bx; have BZ0 := Lib.hid bz
              clear bx bz
              have bx := BX1.out.on hbn BZ1.out
              have bz : p4 < v5.heap.size := by have := hbn.size; have := BZ1.out; omega
              clear BX1 BZ1
              have BX1 := Lib.hid bx; have BZ1 := Lib.hid bz
              clear bx bz
              clear hbn
              obtain ⟨o00, o01, o02, o03⟩ := BX0.out
              have m0 : w.heap.size < v5.heap.size := BZ0.out
              have m0n : w.heap.size ≠ v5.heap.size := Nat.ne_of_lt BZ0.out
              obtain ⟨o10, o11, o12, o13⟩ := BX1.out
              have m1 : p4 < v5.heap.size := BZ1.out
              have m1n : p4 ≠ v5.heap.size := Nat.ne_of_lt BZ1.out
              go_wp2_with fail
              generalize hal6 : v5.alloc (.cells #[.int .i64 (c), .int .i64 (r), .bool false, .bool false] 23) = v6
              have hbn := al1 v5 (.cells #[.int .i64 (c), .int .i64 (r), .bool false, .bool false] 23)
              rw [hal6] at hbn
              have nbx := BoxR.new v5 c r false false
              rw [hal6] at nbx
              have nbz : v5.heap.size < v6.heap.size := by rw [← hal6]; simp
              clear o00 o01 o02 o03 m0 m0n o10 o11 o12 o13 m1 m1n
              have HC6 := Lib.hid (via HC5.out hbn)
              clear HC5
              have bx := BX0.out.on hbn BZ0.out
              have bz : w.heap.size < v6.heap.size := by have := hbn.size; have := BZ0.out; omega
              clear BX0 BZ0
              have BX0 := Lib.hid bx; have BZ0 := Lib.hid bz
              clear bx bz
              have bx := BX1.out.on hbn BZ1.out
              have bz : p4 < v6.heap.size := by have := hbn.size; have := BZ1.out; omega
              clear BX1 BZ1
              have BX1 := Lib.hid bx; have BZ1 := Lib.hid bz
              clear bx bz
              obtain ⟨p6, hp6⟩ : ∃ b, v5.heap.size = b := ⟨_, rfl⟩
              rw [hp6] at nbx nbz ⊢
              have BX2 := Lib.hid nbx; have BZ2 := Lib.hid nbz
              clear nbx nbz hp6
              clear hbn hal6
              obtain ⟨o00, o01, o02, o03⟩ := BX0.out
              have m0 : w.heap.size < v6.heap.size := BZ0.out
              have m0n : w.heap.size ≠ v6.heap.size := Nat.ne_of_lt BZ0.out
              obtain ⟨o10, o11, o12, o13⟩ := BX1.out
              have m1 : p4 < v6.heap.size := BZ1.out
              have m1n : p4 ≠ v6.heap.size := Nat.ne_of_lt BZ1.out
              obtain ⟨o20, o21, o22, o23⟩ := BX2.out
              have m2 : p6 < v6.heap.size := BZ2.out
              have m2n : p6 ≠ v6.heap.size := Nat.ne_of_lt BZ2.out
              try go_wp2
              go_ret
              exact ⟨rfl, HC6.out⟩
    · skip
      clear hx
      obtain rfl := (hy rfl).symm
      by_cases q1 : d < -1000
      · skip
        go_enter Tryd.func8, Tryd.ntmps8
        go_wp2_with fail
        generalize hal1 : w.alloc (.cells #[.int .i64 (c), .int .i64 (r), .bool false, .bool true] 23) = v1
        have hbn := al1 w (.cells #[.int .i64 (c), .int .i64 (r), .bool false, .bool true] 23)
        rw [hal1] at hbn
        have nbx := BoxR.new w c r false true
        rw [hal1] at nbx
        have nbz : w.heap.size < v1.heap.size := by rw [← hal1]; simp
        have HC1 := Lib.hid hbn
        have BX0 := Lib.hid nbx; have BZ0 := Lib.hid nbz
        clear nbx nbz
        clear hbn hal1
        refine (shown_any _ (HT.out.below HC1.out)).mono ?_
        rintro e v2 ⟨rfl, hbn⟩
        have HC2 := Lib.hid (via HC1.out hbn)
        clear HC1
        have bx := BX0.out.on hbn BZ0.out
        have bz : w.heap.size < v2.heap.size := by have := hbn.size; have := BZ0.out; omega
        clear BX0 BZ0
        have BX0 := Lib.hid bx; have BZ0 := Lib.hid bz
        clear bx bz
        clear hbn
        obtain ⟨o00, o01, o02, o03⟩ := BX0.out
        have m0 : w.heap.size < v2.heap.size := BZ0.out
        have m0n : w.heap.size ≠ v2.heap.size := Nat.ne_of_lt BZ0.out
        go_wp2_with fail
        refine (M1.out _).mono ?_
        rintro e v3 ⟨rfl, hbn⟩
        clear o00 o01 o02 o03 m0 m0n
        have HC3 := Lib.hid (via HC2.out hbn)
        clear HC2
        have bx := BX0.out.on hbn BZ0.out
        have bz : w.heap.size < v3.heap.size := by have := hbn.size; have := BZ0.out; omega
        clear BX0 BZ0
        have BX0 := Lib.hid bx; have BZ0 := Lib.hid bz
        clear bx bz
        clear hbn
        obtain ⟨o00, o01, o02, o03⟩ := BX0.out
        have m0 : w.heap.size < v3.heap.size := BZ0.out
        have m0n : w.heap.size ≠ v3.heap.size := Nat.ne_of_lt BZ0.out
        go_wp2_with fail
        generalize hal4 : v3.alloc (.cells #[.int .i64 (C), .int .i64 (r), .bool false, .bool true] 23) = v4
        have hbn := al1 v3 (.cells #[.int .i64 (C), .int .i64 (r), .bool false, .bool true] 23)
        rw [hal4] at hbn
        have nbx := BoxR.new v3 C r false true
        rw [hal4] at nbx
        have nbz : v3.heap.size < v4.heap.size := by rw [← hal4]; simp
        clear o00 o01 o02 o03 m0 m0n
        have HC4 := Lib.hid (via HC3.out hbn)
        clear HC3
        have bx := BX0.out.on hbn BZ0.out
        have bz : w.heap.size < v4.heap.size := by have := hbn.size; have := BZ0.out; omega
        clear BX0 BZ0
        have BX0 := Lib.hid bx; have BZ0 := Lib.hid bz
        clear bx bz
        obtain ⟨p4, hp4⟩ : ∃ b, v3.heap.size = b := ⟨_, rfl⟩
        rw [hp4] at nbx nbz ⊢
        have BX1 := Lib.hid nbx; have BZ1 := Lib.hid nbz
        clear nbx nbz hp4
        clear hbn hal4
        obtain ⟨o00, o01, o02, o03⟩ := BX0.out
        have m0 : w.heap.size < v4.heap.size := BZ0.out
        have m0n : w.heap.size ≠ v4.heap.size := Nat.ne_of_lt BZ0.out
        obtain ⟨o10, o11, o12, o13⟩ := BX1.out
        have m1 : p4 < v4.heap.size := BZ1.out
        have m1n : p4 ≠ v4.heap.size := Nat.ne_of_lt BZ1.out
        try go_wp2
        go_ret
        exact ⟨rfl, HC4.out⟩
      · skip
        by_cases q2 : 1000 < d
        · skip
          go_enter Tryd.func8, Tryd.ntmps8
          go_wp2_with fail
          generalize hal1 : w.alloc (.cells #[.int .i64 (c), .int .i64 (r), .bool false, .bool true] 23) = v1
          have hbn := al1 w (.cells #[.int .i64 (c), .int .i64 (r), .bool false, .bool true] 23)
          rw [hal1] at hbn
          have nbx := BoxR.new w c r false true
          rw [hal1] at nbx
          have nbz : w.heap.size < v1.heap.size := by rw [← hal1]; simp
          have HC1 := Lib.hid hbn
          have BX0 := Lib.hid nbx; have BZ0 := Lib.hid nbz
          clear nbx nbz
          clear hbn hal1
          refine (shown_any _ (HT.out.below HC1.out)).mono ?_
          rintro e v2 ⟨rfl, hbn⟩
          have HC2 := Lib.hid (via HC1.out hbn)
          clear HC1
          have bx := BX0.out.on hbn BZ0.out
          have bz : w.heap.size < v2.heap.size := by have := hbn.size; have := BZ0.out; omega
          clear BX0 BZ0
          have BX0 := Lib.hid bx; have BZ0 := Lib.hid bz
          clear bx bz
          clear hbn
          obtain ⟨o00, o01, o02, o03⟩ := BX0.out
          have m0 : w.heap.size < v2.heap.size := BZ0.out
          have m0n : w.heap.size ≠ v2.heap.size := Nat.ne_of_lt BZ0.out
          go_wp2_with fail
          refine (M1.out _).mono ?_
          rintro e v3 ⟨rfl, hbn⟩
          clear o00 o01 o02 o03 m0 m0n
          have HC3 := Lib.hid (via HC2.out hbn)
          clear HC2
          have bx := BX0.out.on hbn BZ0.out
          have bz : w.heap.size < v3.heap.size := by have := hbn.size; have := BZ0.out; omega
          clear BX0 BZ0
          have BX0 := Lib.hid bx; have BZ0 := Lib.hid bz
          clear bx bz
          clear hbn
          obtain ⟨o00, o01, o02, o03⟩ := BX0.out
          have m0 : w.heap.size < v3.heap.size := BZ0.out
          have m0n : w.heap.size ≠ v3.heap.size := Nat.ne_of_lt BZ0.out
          go_wp2_with fail
          generalize hal4 : v3.alloc (.cells #[.int .i64 (C), .int .i64 (r), .bool false, .bool true] 23) = v4
          have hbn := al1 v3 (.cells #[.int .i64 (C), .int .i64 (r), .bool false, .bool true] 23)
          rw [hal4] at hbn
          have nbx := BoxR.new v3 C r false true
          rw [hal4] at nbx
          have nbz : v3.heap.size < v4.heap.size := by rw [← hal4]; simp
          clear o00 o01 o02 o03 m0 m0n
          have HC4 := Lib.hid (via HC3.out hbn)
          clear HC3
          have bx := BX0.out.on hbn BZ0.out
          have bz : w.heap.size < v4.heap.size := by have := hbn.size; have := BZ0.out; omega
          clear BX0 BZ0
          have BX0 := Lib.hid bx; have BZ0 := Lib.hid bz
          clear bx bz
          obtain ⟨p4, hp4⟩ : ∃ b, v3.heap.size = b := ⟨_, rfl⟩
          rw [hp4] at nbx nbz ⊢
          have BX1 := Lib.hid nbx; have BZ1 := Lib.hid nbz
          clear nbx nbz hp4
          clear hbn hal4
          obtain ⟨o00, o01, o02, o03⟩ := BX0.out
          have m0 : w.heap.size < v4.heap.size := BZ0.out
          have m0n : w.heap.size ≠ v4.heap.size := Nat.ne_of_lt BZ0.out
          obtain ⟨o10, o11, o12, o13⟩ := BX1.out
          have m1 : p4 < v4.heap.size := BZ1.out
          have m1n : p4 ≠ v4.heap.size := Nat.ne_of_lt BZ1.out
          try go_wp2
          go_ret
          exact ⟨rfl, HC4.out⟩
        · skip
          by_cases q3 : e < -1000
          · skip
            go_enter Tryd.func8, Tryd.ntmps8
            go_wp2_with fail
            generalize hal1 : w.alloc (.cells #[.int .i64 (c), .int .i64 (r), .bool false, .bool true] 23) = v1
            have hbn := al1 w (.cells #[.int .i64 (c), .int .i64 (r), .bool false, .bool true] 23)
            rw [hal1] at hbn
            have nbx := BoxR.new w c r false true
            rw [hal1] at nbx
            have nbz : w.heap.size < v1.heap.size := by rw [← hal1]; simp
            have HC1 := Lib.hid hbn
            have BX0 := Lib.hid nbx; have BZ0 := Lib.hid nbz
            clear nbx nbz
            clear hbn hal1
            refine (shown_any _ (HT.out.below HC1.out)).mono ?_
            rintro e v2 ⟨rfl, hbn⟩
            have HC2 := Lib.hid (via HC1.out hbn)
            clear HC1
            have bx := BX0.out.on hbn BZ0.out
            have bz : w.heap.size < v2.heap.size := by have := hbn.size; have := BZ0.out; omega
            clear BX0 BZ0
            have BX0 := Lib.hid bx; have BZ0 := Lib.hid bz
            clear bx bz
            clear hbn
            obtain ⟨o00, o01, o02, o03⟩ := BX0.out
            have m0 : w.heap.size < v2.heap.size := BZ0.out
            have m0n : w.heap.size ≠ v2.heap.size := Nat.ne_of_lt BZ0.out
            go_wp2_with fail
            refine (M1.out _).mono ?_
            rintro e v3 ⟨rfl, hbn⟩
            clear o00 o01 o02 o03 m0 m0n
            have HC3 := Lib.hid (via HC2.out hbn)
            clear HC2
            have bx := BX0.out.on hbn BZ0.out
            have bz : w.heap.size < v3.heap.size := by have := hbn.size; have := BZ0.out; omega
            clear BX0 BZ0
            have BX0 := Lib.hid bx; have BZ0 := Lib.hid bz
            clear bx bz
            clear hbn
            obtain ⟨o00, o01, o02, o03⟩ := BX0.out
            have m0 : w.heap.size < v3.heap.size := BZ0.out
            have m0n : w.heap.size ≠ v3.heap.size := Nat.ne_of_lt BZ0.out
            go_wp2_with fail
            generalize hal4 : v3.alloc (.cells #[.int .i64 (C), .int .i64 (r), .bool false, .bool true] 23) = v4
            have hbn := al1 v3 (.cells #[.int .i64 (C), .int .i64 (r), .bool false, .bool true] 23)
            rw [hal4] at hbn
            have nbx := BoxR.new v3 C r false true
            rw [hal4] at nbx
            have nbz : v3.heap.size < v4.heap.size := by rw [← hal4]; simp
            clear o00 o01 o02 o03 m0 m0n
            have HC4 := Lib.hid (via HC3.out hbn)
            clear HC3
            have bx := BX0.out.on hbn BZ0.out
            have bz : w.heap.size < v4.heap.size := by have := hbn.size; have := BZ0.out; omega
            clear BX0 BZ0
            have BX0 := Lib.hid bx; have BZ0 := Lib.hid bz
            clear bx bz
            obtain ⟨p4, hp4⟩ : ∃ b, v3.heap.size = b := ⟨_, rfl⟩
            rw [hp4] at nbx nbz ⊢
            have BX1 := Lib.hid nbx; have BZ1 := Lib.hid nbz
            clear nbx nbz hp4
            clear hbn hal4
            obtain ⟨o00, o01, o02, o03⟩ := BX0.out
            have m0 : w.heap.size < v4.heap.size := BZ0.out
            have m0n : w.heap.size ≠ v4.heap.size := Nat.ne_of_lt BZ0.out
            obtain ⟨o10, o11, o12, o13⟩ := BX1.out
            have m1 : p4 < v4.heap.size := BZ1.out
            have m1n : p4 ≠ v4.heap.size := Nat.ne_of_lt BZ1.out
            try go_wp2
            go_ret
            exact ⟨rfl, HC4.out⟩
          · skip
            by_cases q4 : 1000 < e
            · skip
              go_enter Tryd.func8, Tryd.ntmps8
              go_wp2_with fail
              generalize hal1 : w.alloc (.cells #[.int .i64 (c), .int .i64 (r), .bool false, .bool true] 23) = v1
              have hbn := al1 w (.cells #[.int .i64 (c), .int .i64 (r), .bool false, .bool true] 23)
              rw [hal1] at hbn
              have nbx := BoxR.new w c r false true
              rw [hal1] at nbx
              have nbz : w.heap.size < v1.heap.size := by rw [← hal1]; simp
              have HC1 := Lib.hid hbn
              have BX0 := Lib.hid nbx; have BZ0 := Lib.hid nbz
              clear nbx nbz
              clear hbn hal1
              refine (shown_any _ (HT.out.below HC1.out)).mono ?_
              rintro e v2 ⟨rfl, hbn⟩
              have HC2 := Lib.hid (via HC1.out hbn)
              clear HC1
              have bx := BX0.out.on hbn BZ0.out
              have bz : w.heap.size < v2.heap.size := by have := hbn.size; have := BZ0.out; omega
              clear BX0 BZ0
              have BX0 := Lib.hid bx; have BZ0 := Lib.hid bz
              clear bx bz
              clear hbn
              obtain ⟨o00, o01, o02, o03⟩ := BX0.out
              have m0 : w.heap.size < v2.heap.size := BZ0.out
              have m0n : w.heap.size ≠ v2.heap.size := Nat.ne_of_lt BZ0.out
              go_wp2_with fail
              refine (M1.out _).mono ?_
              rintro e v3 ⟨rfl, hbn⟩
              clear o00 o01 o02 o03 m0 m0n
              have HC3 := Lib.hid (via HC2.out hbn)
              clear HC2
              have bx := BX0.out.on hbn BZ0.out
              have bz : w.heap.size < v3.heap.size := by have := hbn.size; have := BZ0.out; omega
              clear BX0 BZ0
              have BX0 := Lib.hid bx; have BZ0 := Lib.hid bz
              clear bx bz
              clear hbn
              obtain ⟨o00, o01, o02, o03⟩ := BX0.out
              have m0 : w.heap.size < v3.heap.size := BZ0.out
              have m0n : w.heap.size ≠ v3.heap.size := Nat.ne_of_lt BZ0.out
              go_wp2_with fail
              generalize hal4 : v3.alloc (.cells #[.int .i64 (C), .int .i64 (r), .bool false, .bool true] 23) = v4
              have hbn := al1 v3 (.cells #[.int .i64 (C), .int .i64 (r), .bool false, .bool true] 23)
              rw [hal4] at hbn
              have nbx := BoxR.new v3 C r false true
              rw [hal4] at nbx
              have nbz : v3.heap.size < v4.heap.size := by rw [← hal4]; simp
              clear o00 o01 o02 o03 m0 m0n
              have HC4 := Lib.hid (via HC3.out hbn)
              clear HC3
              have bx := BX0.out.on hbn BZ0.out
              have bz : w.heap.size < v4.heap.size := by have := hbn.size; have := BZ0.out; omega
              clear BX0 BZ0
              have BX0 := Lib.hid bx; have BZ0 := Lib.hid bz
              clear bx bz
              obtain ⟨p4, hp4⟩ : ∃ b, v3.heap.size = b := ⟨_, rfl⟩
              rw [hp4] at nbx nbz ⊢
              have BX1 := Lib.hid nbx; have BZ1 := Lib.hid nbz
              clear nbx nbz hp4
              clear hbn hal4
              obtain ⟨o00, o01, o02, o03⟩ := BX0.out
              have m0 : w.heap.size < v4.heap.size := BZ0.out
              have m0n : w.heap.size ≠ v4.heap.size := Nat.ne_of_lt BZ0.out
              obtain ⟨o10, o11, o12, o13⟩ := BX1.out
              have m1 : p4 < v4.heap.size := BZ1.out
              have m1n : p4 ≠ v4.heap.size := Nat.ne_of_lt BZ1.out
              try go_wp2
              go_ret
              exact ⟨rfl, HC4.out⟩
            · skip
              have h1 : -1000 ≤ d := by omega
              have h2 : d ≤ 1000 := by omega
              have h3 : -1000 ≤ e := by omega
              have h4 : e ≤ 1000 := by omega
              obtain ⟨w1, w2⟩ := NE.out h1 h2 h3 h4
              go_enter Tryd.func8, Tryd.ntmps8
              go_wp2_with fail
              generalize hal1 : w.alloc (.cells #[.int .i64 (c), .int .i64 (r), .bool false, .bool true] 23) = v1
              have hbn := al1 w (.cells #[.int .i64 (c), .int .i64 (r), .bool false, .bool true] 23)
              rw [hal1] at hbn
              have nbx := BoxR.new w c r false true
              rw [hal1] at nbx
              have nbz : w.heap.size < v1.heap.size := by rw [← hal1]; simp
              have HC1 := Lib.hid hbn
              have BX0 := Lib.hid nbx; have BZ0 := Lib.hid nbz
              clear nbx nbz
              clear hbn hal1
              refine (shown_any _ (HT.out.below HC1.out)).mono ?_
              rintro e v2 ⟨rfl, hbn⟩
              have HC2 := Lib.hid (via HC1.out hbn)
              clear HC1
              have bx := BX0.out.on hbn BZ0.out
              have bz : w.heap.size < v2.heap.size := by have := hbn.size; have := BZ0.out; omega
              clear BX0 BZ0
              have BX0 := Lib.hid bx; have BZ0 := Lib.hid bz
              clear bx bz
              clear hbn
              obtain ⟨o00, o01, o02, o03⟩ := BX0.out
              have m0 : w.heap.size < v2.heap.size := BZ0.out
              have m0n : w.heap.size ≠ v2.heap.size := Nat.ne_of_lt BZ0.out
              go_wp2_with fail
              refine (M1.out _).mono ?_
              rintro e v3 ⟨rfl, hbn⟩
              clear o00 o01 o02 o03 m0 m0n
              have HC3 := Lib.hid (via HC2.out hbn)
              clear HC2
              have bx := BX0.out.on hbn BZ0.out
              have bz : w.heap.size < v3.heap.size := by have := hbn.size; have := BZ0.out; omega
              clear BX0 BZ0
              have BX0 := Lib.hid bx; have BZ0 := Lib.hid bz
              clear bx bz
              clear hbn
              obtain ⟨o00, o01, o02, o03⟩ := BX0.out
              have m0 : w.heap.size < v3.heap.size := BZ0.out
              have m0n : w.heap.size ≠ v3.heap.size := Nat.ne_of_lt BZ0.out
              go_wp2_with fail
              generalize hal4 : v3.alloc (.cells #[.int .i64 (C), .int .i64 (r), .bool false, .bool true] 23) = v4
              have hbn := al1 v3 (.cells #[.int .i64 (C), .int .i64 (r), .bool false, .bool true] 23)
              rw [hal4] at hbn
              have nbx := BoxR.new v3 C r false true
              rw [hal4] at nbx
              have nbz : v3.heap.size < v4.heap.size := by rw [← hal4]; simp
              clear o00 o01 o02 o03 m0 m0n
              have HC4 := Lib.hid (via HC3.out hbn)
              clear HC3
              have bx := BX0.out.on hbn BZ0.out
              have bz : w.heap.size < v4.heap.size := by have := hbn.size; have := BZ0.out; omega
              clear BX0 BZ0
              have BX0 := Lib.hid bx; have BZ0 := Lib.hid bz
              clear bx bz
              obtain ⟨p4, hp4⟩ : ∃ b, v3.heap.size = b := ⟨_, rfl⟩
              rw [hp4] at nbx nbz ⊢
              have BX1 := Lib.hid nbx; have BZ1 := Lib.hid nbz
              clear nbx nbz hp4
              clear hbn hal4
              obtain ⟨o00, o01, o02, o03⟩ := BX0.out
              have m0 : w.heap.size < v4.heap.size := BZ0.out
              have m0n : w.heap.size ≠ v4.heap.size := Nat.ne_of_lt BZ0.out
              obtain ⟨o10, o11, o12, o13⟩ := BX1.out
              have m1 : p4 < v4.heap.size := BZ1.out
              have m1n : p4 ≠ v4.heap.size := Nat.ne_of_lt BZ1.out
              refine (M3.out h1 h2 h3 h4 _).mono ?_
              rintro e v5 ⟨rfl, hbn⟩
              clear o00 o01 o02 o03 m0 m0n o10 o11 o12 o13 m1 m1n
              have HC5 := Lib.hid (via HC4.out hbn)
              clear HC4
              have bx := BX0.out.on hbn BZ0.out
              have bz : w.heap.size < v5.heap.size := by have := hbn.size; have := BZ0.out; omega
              clear BX0 BZ0
              have BX0 := Lib.hid bx; have BZ0 := Lib.hid bz
              clear bx bz
              have bx := BX1.out.on hbn BZ1.out
              have bz : p4 < v5.heap.size := by have := hbn.size; have := BZ1.out; omega
              clear BX1 BZ1
              have BX1 := Lib.hid bx; have BZ1 := Lib.hid bz
              clear bx bz
              clear hbn
              obtain ⟨o00, o01, o02, o03⟩ := BX0.out
              have m0 : w.heap.size < v5.heap.size := BZ0.out
              have m0n : w.heap.size ≠ v5.heap.size := Nat.ne_of_lt BZ0.out
              obtain ⟨o10, o11, o12, o13⟩ := BX1.out
              have m1 : p4 < v5.heap.size := BZ1.out
              have m1n : p4 ≠ v5.heap.size := Nat.ne_of_lt BZ1.out
              go_wp2_with fail
              generalize hal6 : v5.alloc (.cells #[.int .i64 (c), .int .i64 (r), .bool false, .bool true] 23) = v6
              have hbn := al1 v5 (.cells #[.int .i64 (c), .int .i64 (r), .bool false, .bool true] 23)
              rw [hal6] at hbn
              have nbx := BoxR.new v5 c r false true
              rw [hal6] at nbx
              have nbz : v5.heap.size < v6.heap.size := by rw [← hal6]; simp
              clear o00 o01 o02 o03 m0 m0n o10 o11 o12 o13 m1 m1n
              have HC6 := Lib.hid (via HC5.out hbn)
              clear HC5
              have bx := BX0.out.on hbn BZ0.out
              have bz : w.heap.size < v6.heap.size := by have := hbn.size; have := BZ0.out; omega
              clear BX0 BZ0
              have BX0 := Lib.hid bx; have BZ0 := Lib.hid bz
              clear bx bz
              have bx := BX1.out.on hbn BZ1.out
              have bz : p4 < v6.heap.size := by have := hbn.size; have := BZ1.out; omega
              clear BX1 BZ1
              have BX1 := Lib.hid bx; have BZ1 := Lib.hid bz
              clear bx bz
              obtain ⟨p6, hp6⟩ : ∃ b, v5.heap.size = b := ⟨_, rfl⟩
              rw [hp6] at nbx nbz ⊢
              have BX2 := Lib.hid nbx; have BZ2 := Lib.hid nbz
              clear nbx nbz hp6
              clear hbn hal6
              obtain ⟨o00, o01, o02, o03⟩ := BX0.out
              have m0 : w.heap.size < v6.heap.size := BZ0.out
              have m0n : w.heap.size ≠ v6.heap.size := Nat.ne_of_lt BZ0.out
              obtain ⟨o10, o11, o12, o13⟩ := BX1.out
              have m1 : p4 < v6.heap.size := BZ1.out
              have m1n : p4 ≠ v6.heap.size := Nat.ne_of_lt BZ1.out
              obtain ⟨o20, o21, o22, o23⟩ := BX2.out
              have m2 : p6 < v6.heap.size := BZ2.out
              have m2n : p6 ≠ v6.heap.size := Nat.ne_of_lt BZ2.out
              try go_wp2
              go_ret
              exact ⟨rfl, HC6.out⟩
    · skip
      obtain rfl := (hx rfl).symm
      clear hy
      by_cases q1 : d < -1000
      · skip
        go_enter Tryd.func8, Tryd.ntmps8
        go_wp2_with fail
        generalize hal1 : w.alloc (.cells #[.int .i64 (c), .int .i64 (r), .bool true, .bool false] 23) = v1
        have hbn := al1 w (.cells #[.int .i64 (c), .int .i64 (r), .bool true, .bool false] 23)
        rw [hal1] at hbn
        have nbx := BoxR.new w c r true false
        rw [hal1] at nbx
        have nbz : w.heap.size < v1.heap.size := by rw [← hal1]; simp
        have HC1 := Lib.hid hbn
        have BX0 := Lib.hid nbx; have BZ0 := Lib.hid nbz
        clear nbx nbz
        clear hbn hal1
        refine (shown_any _ (HT.out.below HC1.out)).mono ?_
        rintro e v2 ⟨rfl, hbn⟩
        have HC2 := Lib.hid (via HC1.out hbn)
        clear HC1
        have bx := BX0.out.on hbn BZ0.out
        have bz : w.heap.size < v2.heap.size := by have := hbn.size; have := BZ0.out; omega
        clear BX0 BZ0
        have BX0 := Lib.hid bx; have BZ0 := Lib.hid bz
        clear bx bz
        clear hbn
        obtain ⟨o00, o01, o02, o03⟩ := BX0.out
        have m0 : w.heap.size < v2.heap.size := BZ0.out
        have m0n : w.heap.size ≠ v2.heap.size := Nat.ne_of_lt BZ0.out
        go_wp2_with fail
        refine (M1.out _).mono ?_
        rintro e v3 ⟨rfl, hbn⟩
        clear o00 o01 o02 o03 m0 m0n
        have HC3 := Lib.hid (via HC2.out hbn)
        clear HC2
        have bx := BX0.out.on hbn BZ0.out
        have bz : w.heap.size < v3.heap.size := by have := hbn.size; have := BZ0.out; omega
        clear BX0 BZ0
        have BX0 := Lib.hid bx; have BZ0 := Lib.hid bz
        clear bx bz
        clear hbn
        obtain ⟨o00, o01, o02, o03⟩ := BX0.out
        have m0 : w.heap.size < v3.heap.size := BZ0.out
        have m0n : w.heap.size ≠ v3.heap.size := Nat.ne_of_lt BZ0.out
        go_wp2_with fail
        generalize hal4 : v3.alloc (.cells #[.int .i64 (c), .int .i64 (R), .bool true, .bool false] 23) = v4
        have hbn := al1 v3 (.cells #[.int .i64 (c), .int .i64 (R), .bool true, .bool false] 23)
        rw [hal4] at hbn
        have nbx := BoxR.new v3 c R true false
        rw [hal4] at nbx
        have nbz : v3.heap.size < v4.heap.size := by rw [← hal4]; simp
        clear o00 o01 o02 o03 m0 m0n
        have HC4 := Lib.hid (via HC3.out hbn)
        clear HC3
        have bx := BX0.out.on hbn BZ0.out
        have bz : w.heap.size < v4.heap.size := by have := hbn.size; have := BZ0.out; omega
        clear BX0 BZ0
        have BX0 := Lib.hid bx; have BZ0 := Lib.hid bz
        clear bx bz
        obtain ⟨p4, hp4⟩ : ∃ b, v3.heap.size = b := ⟨_, rfl⟩
        rw [hp4] at nbx nbz ⊢
        have BX1 := Lib.hid nbx; have BZ1 := Lib.hid nbz
        clear nbx nbz hp4
        clear hbn hal4
        obtain ⟨o00, o01, o02, o03⟩ := BX0.out
        have m0 : w.heap.size < v4.heap.size := BZ0.out
        have m0n : w.heap.size ≠ v4.heap.size := Nat.ne_of_lt BZ0.out
        obtain ⟨o10, o11, o12, o13⟩ := BX1.out
        have m1 : p4 < v4.heap.size := BZ1.out
        have m1n : p4 ≠ v4.heap.size := Nat.ne_of_lt BZ1.out
        try go_wp2
        go_ret
        exact ⟨rfl, HC4.out⟩
      · skip
        by_cases q2 : 1000 < d
        · skip
          go_enter Tryd.func8, Tryd.ntmps8
          go_wp2_with fail
          generalize hal1 : w.alloc (.cells #[.int .i64 (c), .int .i64 (r), .bool true, .bool false] 23) = v1
          have hbn := al1 w (.cells #[.int .i64 (c), .int .i64 (r), .bool true, .bool false] 23)
          rw [hal1] at hbn
          have nbx := BoxR.new w c r true false
          rw [hal1] at nbx
          have nbz : w.heap.size < v1.heap.size := by rw [← hal1]; simp
          have HC1 := Lib.hid hbn
          have BX0 := Lib.hid nbx; have BZ0 := Lib.hid nbz
          clear nbx nbz
          clear hbn hal1
          refine (shown_any _ (HT.out.below HC1.out)).mono ?_
          rintro e v2 ⟨rfl, hbn⟩
          have HC2 := Lib.hid (via HC1.out hbn)
          clear HC1
          have bx := BX0.out.on hbn BZ0.out
          have bz : w.heap.size < v2.heap.size := by have := hbn.size; have := BZ0.out; omega
          clear BX0 BZ0
          have BX0 := Lib.hid bx; have BZ0 := Lib.hid bz
          clear bx bz
          clear hbn
          obtain ⟨o00, o01, o02, o03⟩ := BX0.out
          have m0 : w.heap.size < v2.heap.size := BZ0.out
          have m0n : w.heap.size ≠ v2.heap.size := Nat.ne_of_lt BZ0.out
          go_wp2_with fail
          refine (M1.out _).mono ?_
          rintro e v3 ⟨rfl, hbn⟩
          clear o00 o01 o02 o03 m0 m0n
          have HC3 := Lib.hid (via HC2.out hbn)
          clear HC2
          have bx := BX0.out.on hbn BZ0.out
          have bz : w.heap.size < v3.heap.size := by have := hbn.size; have := BZ0.out; omega
          clear BX0 BZ0
          have BX0 := Lib.hid bx; have BZ0 := Lib.hid bz
          clear bx bz
          clear hbn
          obtain ⟨o00, o01, o02, o03⟩ := BX0.out
          have m0 : w.heap.size < v3.heap.size := BZ0.out
          have m0n : w.heap.size ≠ v3.heap.size := Nat.ne_of_lt BZ0.out
          go_wp2_with fail
          generalize hal4 : v3.alloc (.cells #[.int .i64 (c), .int .i64 (R), .bool true, .bool false] 23) = v4
          have hbn := al1 v3 (.cells #[.int .i64 (c), .int .i64 (R), .bool true, .bool false] 23)
          rw [hal4] at hbn
          have nbx := BoxR.new v3 c R true false
          rw [hal4] at nbx
          have nbz : v3.heap.size < v4.heap.size := by rw [← hal4]; simp
          clear o00 o01 o02 o03 m0 m0n
          have HC4 := Lib.hid (via HC3.out hbn)
          clear HC3
          have bx := BX0.out.on hbn BZ0.out
          have bz : w.heap.size < v4.heap.size := by have := hbn.size; have := BZ0.out; omega
          clear BX0 BZ0
          have BX0 := Lib.hid bx; have BZ0 := Lib.hid bz
          clear bx bz
          obtain ⟨p4, hp4⟩ : ∃ b, v3.heap.size = b := ⟨_, rfl⟩
          rw [hp4] at nbx nbz ⊢
          have BX1 := Lib.hid nbx; have BZ1 := Lib.hid nbz
          clear nbx nbz hp4
          clear hbn hal4
          obtain ⟨o00, o01, o02, o03⟩ := BX0.out
          have m0 : w.heap.size < v4.heap.size := BZ0.out
          have m0n : w.heap.size ≠ v4.heap.size := Nat.ne_of_lt BZ0.out
          obtain ⟨o10, o11, o12, o13⟩ := BX1.out
          have m1 : p4 < v4.heap.size := BZ1.out
          have m1n : p4 ≠ v4.heap.size := Nat.ne_of_lt BZ1.out
          try go_wp2
          go_ret
          exact ⟨rfl, HC4.out⟩
        · skip
          by_cases q3 : e < -1000
          · skip
            go_enter Tryd.func8, Tryd.ntmps8
            go_wp2_with fail
            generalize hal1 : w.alloc (.cells #[.int .i64 (c), .int .i64 (r), .bool true, .bool false] 23) = v1
            have hbn := al1 w (.cells #[.int .i64 (c), .int .i64 (r), .bool true, .bool false] 23)
            rw [hal1] at hbn
            have nbx := BoxR.new w c r true false
            rw [hal1] at nbx
            have nbz : w.heap.size < v1.heap.size := by rw [← hal1]; simp
            have HC1 := Lib.hid hbn
            have BX0 := Lib.hid nbx; have BZ0 := Lib.hid nbz
            clear nbx nbz
            clear hbn hal1
            refine (shown_any _ (HT.out.below HC1.out)).mono ?_
            rintro e v2 ⟨rfl, hbn⟩
            have HC2 := Lib.hid (via HC1.out hbn)
            clear HC1
            have bx := BX0.out.on hbn BZ0.out
            have bz : w.heap.size < v2.heap.size := by have := hbn.size; have := BZ0.out; omega
            clear BX0 BZ0
            have BX0 := Lib.hid bx; have BZ0 := Lib.hid bz
            clear bx bz
            clear hbn
            obtain ⟨o00, o01, o02, o03⟩ := BX0.out
            have m0 : w.heap.size < v2.heap.size := BZ0.out
            have m0n : w.heap.size ≠ v2.heap.size := Nat.ne_of_lt BZ0.out
            go_wp2_with fail
            refine (M1.out _).mono ?_
            rintro e v3 ⟨rfl, hbn⟩
            clear o00 o01 o02 o03 m0 m0n
            have HC3 := Lib.hid (via HC2.out hbn)
            clear HC2
            have bx := BX0.out.on hbn BZ0.out
            have bz : w.heap.size < v3.heap.size := by have := hbn.size; have := BZ0.out; omega
            clear BX0 BZ0
            have BX0 := Lib.hid bx; have BZ0 := Lib.hid bz
            clear bx bz
            clear hbn
            obtain ⟨o00, o01, o02, o03⟩ := BX0.out
            have m0 : w.heap.size < v3.heap.size := BZ0.out
            have m0n : w.heap.size ≠ v3.heap.size := Nat.ne_of_lt BZ0.out
            go_wp2_with fail
            generalize hal4 : v3.alloc (.cells #[.int .i64 (c), .int .i64 (R), .bool true, .bool false] 23) = v4
            have hbn := al1 v3 (.cells #[.int .i64 (c), .int .i64 (R), .bool true, .bool false] 23)
            rw [hal4] at hbn
            have nbx := BoxR.new v3 c R true false
            rw [hal4] at nbx
            have nbz : v3.heap.size < v4.heap.size := by rw [← hal4]; simp
            clear o00 o01 o02 o03 m0 m0n
            have HC4 := Lib.hid (via HC3.out hbn)
            clear HC3
            have bx := BX0.out.on hbn BZ0.out
            have bz : w.heap.size < v4.heap.size := by have := hbn.size; have := BZ0.out; omega
            clear BX0 BZ0
            have BX0 := Lib.hid bx; have BZ0 := Lib.hid bz
            clear bx bz
            obtain ⟨p4, hp4⟩ : ∃ b, v3.heap.size = b := ⟨_, rfl⟩
            rw [hp4] at nbx nbz ⊢
            have BX1 := Lib.hid nbx; have BZ1 := Lib.hid nbz
            clear nbx nbz hp4
            clear hbn hal4
            obtain ⟨o00, o01, o02, o03⟩ := BX0.out
            have m0 : w.heap.size < v4.heap.size := BZ0.out
            have m0n : w.heap.size ≠ v4.heap.size := Nat.ne_of_lt BZ0.out
            obtain ⟨o10, o11, o12, o13⟩ := BX1.out
            have m1 : p4 < v4.heap.size := BZ1.out
            have m1n : p4 ≠ v4.heap.size := Nat.ne_of_lt BZ1.out
            try go_wp2
            go_ret
            exact ⟨rfl, HC4.out⟩
          · skip
            by_cases q4 : 1000 < e
            · skip
              go_enter Tryd.func8, Tryd.ntmps8
              go_wp2_with fail
              generalize hal1 : w.alloc (.cells #[.int .i64 (c), .int .i64 (r), .bool true, .bool false] 23) = v1
              have hbn := al1 w (.cells #[.int .i64 (c), .int .i64 (r), .bool true, .bool false] 23)
              rw [hal1] at hbn
              have nbx := BoxR.new w c r true false
              rw [hal1] at nbx
              have nbz : w.heap.size < v1.heap.size := by rw [← hal1]; simp
              have HC1 := Lib.hid hbn
              have BX0 := Lib.hid nbx; have BZ0 := Lib.hid nbz
              clear nbx nbz
              clear hbn hal1
              refine (shown_any _ (HT.out.below HC1.out)).mono ?_
              rintro e v2 ⟨rfl, hbn⟩
              have HC2 := Lib.hid (via HC1.out hbn)
              clear HC1
              have bx := BX0.out.on hbn BZ0.out
              have bz : w.heap.size < v2.heap.size := by have := hbn.size; have := BZ0.out; omega
              clear BX0 BZ0
              have BX0 := Lib.hid bx; have BZ0 := Lib.hid bz
              clear bx bz
              clear hbn
              obtain ⟨o00, o01, o02, o03⟩ := BX0.out
              have m0 : w.heap.size < v2.heap.size := BZ0.out
              have m0n : w.heap.size ≠ v2.heap.size := Nat.ne_of_lt BZ0.out
              go_wp2_with fail
              refine (M1.out _).mono ?_
              rintro e v3 ⟨rfl, hbn⟩
              clear o00 o01 o02 o03 m0 m0n
              have HC3 := Lib.hid (via HC2.out hbn)
              clear HC2
              have bx := BX0.out.on hbn BZ0.out
              have bz : w.heap.size < v3.heap.size := by have := hbn.size; have := BZ0.out; omega
              clear BX0 BZ0
              have BX0 := Lib.hid bx; have BZ0 := Lib.hid bz
              clear bx bz
              clear hbn
              obtain ⟨o00, o01, o02, o03⟩ := BX0.out
              have m0 : w.heap.size < v3.heap.size := BZ0.out
              have m0n : w.heap.size ≠ v3.heap.size := Nat.ne_of_lt BZ0.out
              go_wp2_with fail
              generalize hal4 : v3.alloc (.cells #[.int .i64 (c), .int .i64 (R), .bool true, .bool false] 23) = v4
              have hbn := al1 v3 (.cells #[.int .i64 (c), .int .i64 (R), .bool true, .bool false] 23)
              rw [hal4] at hbn
              have nbx := BoxR.new v3 c R true false
              rw [hal4] at nbx
              have nbz : v3.heap.size < v4.heap.size := by rw [← hal4]; simp
              clear o00 o01 o02 o03 m0 m0n
              have HC4 := Lib.hid (via HC3.out hbn)
              clear HC3
              have bx := BX0.out.on hbn BZ0.out
              have bz : w.heap.size < v4.heap.size := by have := hbn.size; have := BZ0.out; omega
              clear BX0 BZ0
              have BX0 := Lib.hid bx; have BZ0 := Lib.hid bz
              clear bx bz
              obtain ⟨p4, hp4⟩ : ∃ b, v3.heap.size = b := ⟨_, rfl⟩
              rw [hp4] at nbx nbz ⊢
              have BX1 := Lib.hid nbx; have BZ1 := Lib.hid nbz
              clear nbx nbz hp4
              clear hbn hal4
              obtain ⟨o00, o01, o02, o03⟩ := BX0.out
              have m0 : w.heap.size < v4.heap.size := BZ0.out
              have m0n : w.heap.size ≠ v4.heap.size := Nat.ne_of_lt BZ0.out
              obtain ⟨o10, o11, o12, o13⟩ := BX1.out
              have m1 : p4 < v4.heap.size := BZ1.out
              have m1n : p4 ≠ v4.heap.size := Nat.ne_of_lt BZ1.out
              try go_wp2
              go_ret
              exact ⟨rfl, HC4.out⟩
            · skip
              have h1 : -1000 ≤ d := by omega
              have h2 : d ≤ 1000 := by omega
              have h3 : -1000 ≤ e := by omega
              have h4 : e ≤ 1000 := by omega
              obtain ⟨w1, w2⟩ := NE.out h1 h2 h3 h4
              go_enter Tryd.func8, Tryd.ntmps8
              go_wp2_with fail
              generalize hal1 : w.alloc (.cells #[.int .i64 (c), .int .i64 (r), .bool true, .bool false] 23) = v1
              have hbn := al1 w (.cells #[.int .i64 (c), .int .i64 (r), .bool true, .bool false] 23)
              rw [hal1] at hbn
              have nbx := BoxR.new w c r true false
              rw [hal1] at nbx
              have nbz : w.heap.size < v1.heap.size := by rw [← hal1]; simp
              have HC1 := Lib.hid hbn
              have BX0 := Lib.hid nbx; have BZ0 := Lib.hid nbz
              clear nbx nbz
              clear hbn hal1
              refine (shown_any _ (HT.out.below HC1.out)).mono ?_
              rintro e v2 ⟨rfl, hbn⟩
              have HC2 := Lib.hid (via HC1.out hbn)
              clear HC1
              have bx := BX0.out.on hbn BZ0.out
              have bz : w.heap.size < v2.heap.size := by have := hbn.size; have := BZ0.out; omega
              clear BX0 BZ0
              have BX0 := Lib.hid bx; have BZ0 := Lib.hid bz
              clear bx bz
              clear hbn
              obtain ⟨o00, o01, o02, o03⟩ := BX0.out
              have m0 : w.heap.size < v2.heap.size := BZ0.out
              have m0n : w.heap.size ≠ v2.heap.size := Nat.ne_of_lt BZ0.out
              go_wp2_with fail
              refine (M1.out _).mono ?_
              rintro e v3 ⟨rfl, hbn⟩
              clear o00 o01 o02 o03 m0 m0n
              have HC3 := Lib.hid (via HC2.out hbn)
              clear HC2
              have bx := BX0.out.on hbn BZ0.out
              have bz : w.heap.size < v3.heap.size := by have := hbn.size; have := BZ0.out; omega
              clear BX0 BZ0
              have BX0 := Lib.hid bx; have BZ0 := Lib.hid bz
              clear bx bz
              clear hbn
              obtain ⟨o00, o01, o02, o03⟩ := BX0.out
              have m0 : w.heap.size < v3.heap.size := BZ0.out
              have m0n : w.heap.size ≠ v3.heap.size := Nat.ne_of_lt BZ0.out
              go_wp2_with fail
              generalize hal4 : v3.alloc (.cells #[.int .i64 (c), .int .i64 (R), .bool true, .bool false] 23) = v4
              have hbn := al1 v3 (.cells #[.int .i64 (c), .int .i64 (R), .bool true, .bool false] 23)
              rw [hal4] at hbn
              have nbx := BoxR.new v3 c R true false
              rw [hal4] at nbx
              have nbz : v3.heap.size < v4.heap.size := by rw [← hal4]; simp
              clear o00 o01 o02 o03 m0 m0n
              have HC4 := Lib.hid (via HC3.out hbn)
              clear HC3
              have bx := BX0.out.on hbn BZ0.out
              have bz : w.heap.size < v4.heap.size := by have := hbn.size; have := BZ0.out; omega
              clear BX0 BZ0
              have BX0 := Lib.hid bx; have BZ0 := Lib.hid bz
              clear bx bz
              obtain ⟨p4, hp4⟩ : ∃ b, v3.heap.size = b := ⟨_, rfl⟩
              rw [hp4] at nbx nbz ⊢
              have BX1 := Lib.hid nbx; have BZ1 := Lib.hid nbz
              clear nbx nbz hp4
              clear hbn hal4
              obtain ⟨o00, o01, o02, o03⟩ := BX0.out
              have m0 : w.heap.size < v4.heap.size := BZ0.out
              have m0n : w.heap.size ≠ v4.heap.size := Nat.ne_of_lt BZ0.out
              obtain ⟨o10, o11, o12, o13⟩ := BX1.out
              have m1 : p4 < v4.heap.size := BZ1.out
              have m1n : p4 ≠ v4.heap.size := Nat.ne_of_lt BZ1.out
              refine (M3.out h1 h2 h3 h4 _).mono ?_
              rintro e v5 ⟨rfl, hbn⟩
              clear o00 o01 o02 o03 m0 m0n o10 o11 o12 o13 m1 m1n
              have HC5 := Lib.hid (via HC4.out hbn)
              clear HC4
              have bx := BX0.out.on hbn BZ0.out
              have bz : w.heap.size < v5.heap.size := by have := hbn.size; have := BZ0.out; omega
              clear BX0 BZ0
              have BX0 := Lib.hid bx; have BZ0 := Lib.hid bz
              clear bx bz
              have bx := BX1.out.on hbn BZ1.out
              have bz : p4 < v5.heap.size := by have := hbn.size; have := BZ1.out; omega
              clear BX1 BZ1
              have BX1 := Lib.hid bx; have BZ1 := Lib.hid bz
              clear bx bz
              clear hbn
              obtain ⟨o00, o01, o02, o03⟩ := BX0.out
              have m0 : w.heap.size < v5.heap.size := BZ0.out
              have m0n : w.heap.size ≠ v5.heap.size := Nat.ne_of_lt BZ0.out
              obtain ⟨o10, o11, o12, o13⟩ := BX1.out
              have m1 : p4 < v5.heap.size := BZ1.out
              have m1n : p4 ≠ v5.heap.size := Nat.ne_of_lt BZ1.out
              go_wp2_with fail
              generalize hal6 : v5.alloc (.cells #[.int .i64 (c), .int .i64 (r), .bool true, .bool false] 23) = v6
              have hbn := al1 v5 (.cells #[.int .i64 (c), .int .i64 (r), .bool true, .bool false] 23)
              rw [hal6] at hbn
              have nbx := BoxR.new v5 c r true false
              rw [hal6] at nbx
              have nbz : v5.heap.size < v6.heap.size := by rw [← hal6]; simp
              clear o00 o01 o02 o03 m0 m0n o10 o11 o12 o13 m1 m1n
              have HC6 := Lib.hid (via HC5.out hbn)
              clear HC5
              have bx := BX0.out.on hbn BZ0.out
              have bz : w.heap.size < v6.heap.size := by have := hbn.size; have := BZ0.out; omega
              clear BX0 BZ0
              have BX0 := Lib.hid bx; have BZ0 := Lib.hid bz
              clear bx bz
              have bx := BX1.out.on hbn BZ1.out
              have bz : p4 < v6.heap.size := by have := hbn.size; have := BZ1.out; omega
              clear BX1 BZ1
              have BX1 := Lib.hid bx; have BZ1 := Lib.hid bz
              clear bx bz
              obtain ⟨p6, hp6⟩ : ∃ b, v5.heap.size = b := ⟨_, rfl⟩
              rw [hp6] at nbx nbz ⊢
              have BX2 := Lib.hid nbx; have BZ2 := Lib.hid nbz
              clear nbx nbz hp6
              clear hbn hal6
              obtain ⟨o00, o01, o02, o03⟩ := BX0.out
              have m0 : w.heap.size < v6.heap.size := BZ0.out
              have m0n : w.heap.size ≠ v6.heap.size := Nat.ne_of_lt BZ0.out
              obtain ⟨o10, o11, o12, o13⟩ := BX1.out
              have m1 : p4 < v6.heap.size := BZ1.out
              have m1n : p4 ≠ v6.heap.size := Nat.ne_of_lt BZ1.out
              obtain ⟨o20, o21, o22, o23⟩ := BX2.out
              have m2 : p6 < v6.heap.size := BZ2.out
              have m2n : p6 ≠ v6.heap.size := Nat.ne_of_lt BZ2.out
              try go_wp2
              go_ret
              exact ⟨rfl, HC6.out⟩
    · skip
      obtain rfl := (hx rfl).symm
      obtain rfl := (hy rfl).symm
      by_cases q1 : d < -1000
      · skip
        go_enter Tryd.func8, Tryd.ntmps8
        go_wp2_with fail
        generalize hal1 : w.alloc (.cells #[.int .i64 (c), .int .i64 (r), .bool true, .bool true] 23) = v1
        have hbn := al1 w (.cells #[.int .i64 (c), .int .i64 (r), .bool true, .bool true] 23)
        rw [hal1] at hbn
        have nbx := BoxR.new w c r true true
        rw [hal1] at nbx
        have nbz : w.heap.size < v1.heap.size := by rw [← hal1]; simp
        have HC1 := Lib.hid hbn
        have BX0 := Lib.hid nbx; have BZ0 := Lib.hid nbz
        clear nbx nbz
        clear hbn hal1
        refine (shown_any _ (HT.out.below HC1.out)).mono ?_
        rintro e v2 ⟨rfl, hbn⟩
        have HC2 := Lib.hid (via HC1.out hbn)
        clear HC1
        have bx := BX0.out.on hbn BZ0.out
        have bz : w.heap.size < v2.heap.size := by have := hbn.size; have := BZ0.out; omega
        clear BX0 BZ0
        have BX0 := Lib.hid bx; have BZ0 := Lib.hid bz
        clear bx bz
        clear hbn
        obtain ⟨o00, o01, o02, o03⟩ := BX0.out
        have m0 : w.heap.size < v2.heap.size := BZ0.out
        have m0n : w.heap.size ≠ v2.heap.size := Nat.ne_of_lt BZ0.out
        go_wp2_with fail
        refine (M1.out _).mono ?_
        rintro e v3 ⟨rfl, hbn⟩
        clear o00 o01 o02 o03 m0 m0n
        have HC3 := Lib.hid (via HC2.out hbn)
        clear HC2
        have bx := BX0.out.on hbn BZ0.out
        have bz : w.heap.size < v3.heap.size := by have := hbn.size; have := BZ0.out; omega
        clear BX0 BZ0
        have BX0 := Lib.hid bx; have BZ0 := Lib.hid bz
        clear bx bz
        clear hbn
        obtain ⟨o00, o01, o02, o03⟩ := BX0.out
        have m0 : w.heap.size < v3.heap.size := BZ0.out
        have m0n : w.heap.size ≠ v3.heap.size := Nat.ne_of_lt BZ0.out
        go_wp2_with fail
        generalize hal4 : v3.alloc (.cells #[.int .i64 (c), .int .i64 (r), .bool true, .bool true] 23) = v4
        have hbn := al1 v3 (.cells #[.int .i64 (c), .int .i64 (r), .bool true, .bool true] 23)
        rw [hal4] at hbn
        have nbx := BoxR.new v3 c r true true
        rw [hal4] at nbx
        have nbz : v3.heap.size < v4.heap.size := by rw [← hal4]; simp
        clear o00 o01 o02 o03 m0 m0n
        have HC4 := Lib.hid (via HC3.out hbn)
        clear HC3
        have bx := BX0.out.on hbn BZ0.out
        have bz : w.heap.size < v4.heap.size := by have := hbn.size; have := BZ0.out; omega
        clear BX0 BZ0
        have BX0 := Lib.hid bx; have BZ0 := Lib.hid bz
        clear bx bz
        obtain ⟨p4, hp4⟩ : ∃ b, v3.heap.size = b := ⟨_, rfl⟩
        rw [hp4] at nbx nbz ⊢
        have BX1 := Lib.hid nbx; have BZ1 := Lib.hid nbz
        clear nbx nbz hp4
        clear hbn hal4
        obtain ⟨o00, o01, o02, o03⟩ := BX0.out
        have m0 : w.heap.size < v4.heap.size := BZ0.out
        have m0n : w.heap.size ≠ v4.heap.size := Nat.ne_of_lt BZ0.out
        obtain ⟨o10, o11, o12, o13⟩ := BX1.out
        have m1 : p4 < v4.heap.size := BZ1.out
        have m1n : p4 ≠ v4.heap.size := Nat.ne_of_lt BZ1.out
        try go_wp2
        go_ret
        exact ⟨rfl, HC4.out⟩
      · skip
        by_cases q2 : 1000 < d
        · skip
          go_enter Tryd.func8, Tryd.ntmps8
          go_wp2_with fail
          generalize hal1 : w.alloc (.cells #[.int .i64 (c), .int .i64 (r), .bool true, .bool true] 23) = v1
          have hbn := al1 w (.cells #[.int .i64 (c), .int .i64 (r), .bool true, .bool true] 23)
          rw [hal1] at hbn
          have nbx := BoxR.new w c r true true
          rw [hal1] at nbx
          have nbz : w.heap.size < v1.heap.size := by rw [← hal1]; simp
          have HC1 := Lib.hid hbn
          have BX0 := Lib.hid nbx; have BZ0 := Lib.hid nbz
          clear nbx nbz
          clear hbn hal1
          refine (shown_any _ (HT.out.below HC1.out)).mono ?_
          rintro e v2 ⟨rfl, hbn⟩
          have HC2 := Lib.hid (via HC1.out hbn)
          clear HC1
          have bx := BX0.out.on hbn BZ0.out
          have bz : w.heap.size < v2.heap.size := by have := hbn.size; have := BZ0.out; omega
          clear BX0 BZ0
          have BX0 := Lib.hid bx; have BZ0 := Lib.hid bz
          clear bx bz
          clear hbn
          obtain ⟨o00, o01, o02, o03⟩ := BX0.out
          have m0 : w.heap.size < v2.heap.size := BZ0.out
          have m0n : w.heap.size ≠ v2.heap.size := Nat.ne_of_lt BZ0.out
          go_wp2_with fail
          refine (M1.out _).mono ?_
          rintro e v3 ⟨rfl, hbn⟩
          clear o00 o01 o02 o03 m0 m0n
          have HC3 := Lib.hid (via HC2.out hbn)
          clear HC2
          have bx := BX0.out.on hbn BZ0.out
          have bz : w.heap.size < v3.heap.size := by have := hbn.size; have := BZ0.out; omega
          clear BX0 BZ0
          have BX0 := Lib.hid bx; have BZ0 := Lib.hid bz
          clear bx bz
          clear hbn
          obtain ⟨o00, o01, o02, o03⟩ := BX0.out
          have m0 : w.heap.size < v3.heap.size := BZ0.out
          have m0n : w.heap.size ≠ v3.heap.size := Nat.ne_of_lt BZ0.out
          go_wp2_with fail
          generalize hal4 : v3.alloc (.cells #[.int .i64 (c), .int .i64 (r), .bool true, .bool true] 23) = v4
          have hbn := al1 v3 (.cells #[.int .i64 (c), .int .i64 (r), .bool true, .bool true] 23)
          rw [hal4] at hbn
          have nbx := BoxR.new v3 c r true true
          rw [hal4] at nbx
          have nbz : v3.heap.size < v4.heap.size := by rw [← hal4]; simp
          clear o00 o01 o02 o03 m0 m0n
          have HC4 := Lib.hid (via HC3.out hbn)
          clear HC3
          have bx := BX0.out.on hbn BZ0.out
          have bz : w.heap.size < v4.heap.size := by have := hbn.size; have := BZ0.out; omega
          clear BX0 BZ0
          have BX0 := Lib.hid bx; have BZ0 := Lib.hid bz
          clear bx bz
          obtain ⟨p4, hp4⟩ : ∃ b, v3.heap.size = b := ⟨_, rfl⟩
          rw [hp4] at nbx nbz ⊢
          have BX1 := Lib.hid nbx; have BZ1 := Lib.hid nbz
          clear nbx nbz hp4
          clear hbn hal4
          obtain ⟨o00, o01, o02, o03⟩ := BX0.out
          have m0 : w.heap.size < v4.heap.size := BZ0.out
          have m0n : w.heap.size ≠ v4.heap.size := Nat.ne_of_lt BZ0.out
          obtain ⟨o10, o11, o12, o13⟩ := BX1.out
          have m1 : p4 < v4.heap.size := BZ1.out
          have m1n : p4 ≠ v4.heap.size := Nat.ne_of_lt BZ1.out
          try go_wp2
          go_ret
          exact ⟨rfl, HC4.out⟩
        · skip
          by_cases q3 : e < -1000
          · skip
            go_enter Tryd.func8, Tryd.ntmps8
            go_wp2_with fail
            generalize hal1 : w.alloc (.cells #[.int .i64 (c), .int .i64 (r), .bool true, .bool true] 23) = v1
            have hbn := al1 w (.cells #[.int .i64 (c), .int .i64 (r), .bool true, .bool true] 23)
            rw [hal1] at hbn
            have nbx := BoxR.new w c r true true
            rw [hal1] at nbx
            have nbz : w.heap.size < v1.heap.size := by rw [← hal1]; simp
            have HC1 := Lib.hid hbn
            have BX0 := Lib.hid nbx; have BZ0 := Lib.hid nbz
            clear nbx nbz
            clear hbn hal1
            refine (shown_any _ (HT.out.below HC1.out)).mono ?_
            rintro e v2 ⟨rfl, hbn⟩
            have HC2 := Lib.hid (via HC1.out hbn)
            clear HC1
            have bx := BX0.out.on hbn BZ0.out
            have bz : w.heap.size < v2.heap.size := by have := hbn.size; have := BZ0.out; omega
            clear BX0 BZ0
            have BX0 := Lib.hid bx; have BZ0 := Lib.hid bz
            clear bx bz
            clear hbn
            obtain ⟨o00, o01, o02, o03⟩ := BX0.out
            have m0 : w.heap.size < v2.heap.size := BZ0.out
            have m0n : w.heap.size ≠ v2.heap.size := Nat.ne_of_lt BZ0.out
            go_wp2_with fail
            refine (M1.out _).mono ?_
            rintro e v3 ⟨rfl, hbn⟩
            clear o00 o01 o02 o03 m0 m0n
            have HC3 := Lib.hid (via HC2.out hbn)
            clear HC2
            have bx := BX0.out.on hbn BZ0.out
            have bz : w.heap.size < v3.heap.size := by have := hbn.size; have := BZ0.out; omega
            clear BX0 BZ0
            have BX0 := Lib.hid bx; have BZ0 := Lib.hid bz
            clear bx bz
            clear hbn
            obtain ⟨o00, o01, o02, o03⟩ := BX0.out
            have m0 : w.heap.size < v3.heap.size := BZ0.out
            have m0n : w.heap.size ≠ v3.heap.size := Nat.ne_of_lt BZ0.out
            go_wp2_with fail
            generalize hal4 : v3.alloc (.cells #[.int .i64 (c), .int .i64 (r), .bool true, .bool true] 23) = v4
            have hbn := al1 v3 (.cells #[.int .i64 (c), .int .i64 (r), .bool true, .bool true] 23)
            rw [hal4] at hbn
            have nbx := BoxR.new v3 c r true true
            rw [hal4] at nbx
            have nbz : v3.heap.size < v4.heap.size := by rw [← hal4]; simp
            clear o00 o01 o02 o03 m0 m0n
            have HC4 := Lib.hid (via HC3.out hbn)
            clear HC3
            have bx := BX0.out.on hbn BZ0.out
            have bz : w.heap.size < v4.heap.size := by have := hbn.size; have := BZ0.out; omega
            clear BX0 BZ0
            have BX0 := Lib.hid bx; have BZ0 := Lib.hid bz
            clear bx bz
            obtain ⟨p4, hp4⟩ : ∃ b, v3.heap.size = b := ⟨_, rfl⟩
            rw [hp4] at nbx nbz ⊢
            have BX1 := Lib.hid nbx; have BZ1 := Lib.hid nbz
            clear nbx nbz hp4
            clear hbn hal4
            obtain ⟨o00, o01, o02, o03⟩ := BX0.out
            have m0 : w.heap.size < v4.heap.size := BZ0.out
            have m0n : w.heap.size ≠ v4.heap.size := Nat.ne_of_lt BZ0.out
            obtain ⟨o10, o11, o12, o13⟩ := BX1.out
            have m1 : p4 < v4.heap.size := BZ1.out
            have m1n : p4 ≠ v4.heap.size := Nat.ne_of_lt BZ1.out
            try go_wp2
            go_ret
            exact ⟨rfl, HC4.out⟩
          · skip
            by_cases q4 : 1000 < e
            · skip
              go_enter Tryd.func8, Tryd.ntmps8
              go_wp2_with fail
              generalize hal1 : w.alloc (.cells #[.int .i64 (c), .int .i64 (r), .bool true, .bool true] 23) = v1
              have hbn := al1 w (.cells #[.int .i64 (c), .int .i64 (r), .bool true, .bool true] 23)
              rw [hal1] at hbn
              have nbx := BoxR.new w c r true true
              rw [hal1] at nbx
              have nbz : w.heap.size < v1.heap.size := by rw [← hal1]; simp
              have HC1 := Lib.hid hbn
              have BX0 := Lib.hid nbx; have BZ0 := Lib.hid nbz
              clear nbx nbz
              clear hbn hal1
              refine (shown_any _ (HT.out.below HC1.out)).mono ?_
              rintro e v2 ⟨rfl, hbn⟩
              have HC2 := Lib.hid (via HC1.out hbn)
              clear HC1
              have bx := BX0.out.on hbn BZ0.out
              have bz : w.heap.size < v2.heap.size := by have := hbn.size; have := BZ0.out; omega
              clear BX0 BZ0
              have BX0 := Lib.hid bx; have BZ0 := Lib.hid bz
              clear bx bz
              clear hbn
              obtain ⟨o00, o01, o02, o03⟩ := BX0.out
              have m0 : w.heap.size < v2.heap.size := BZ0.out
              have m0n : w.heap.size ≠ v2.heap.size := Nat.ne_of_lt BZ0.out
              go_wp2_with fail
              refine (M1.out _).mono ?_
              rintro e v3 ⟨rfl, hbn⟩
              clear o00 o01 o02 o03 m0 m0n
              have HC3 := Lib.hid (via HC2.out hbn)
              clear HC2
              have bx := BX0.out.on hbn BZ0.out
              have bz : w.heap.size < v3.heap.size := by have := hbn.size; have := BZ0.out; omega
              clear BX0 BZ0
              have BX0 := Lib.hid bx; have BZ0 := Lib.hid bz
              clear bx bz
              clear hbn
              obtain ⟨o00, o01, o02, o03⟩ := BX0.out
              have m0 : w.heap.size < v3.heap.size := BZ0.out
              have m0n : w.heap.size ≠ v3.heap.size := Nat.ne_of_lt BZ0.out
              go_wp2_with fail
              generalize hal4 : v3.alloc (.cells #[.int .i64 (c), .int .i64 (r), .bool true, .bool true] 23) = v4
              have hbn := al1 v3 (.cells #[.int .i64 (c), .int .i64 (r), .bool true, .bool true] 23)
              rw [hal4] at hbn
              have nbx := BoxR.new v3 c r true true
              rw [hal4] at nbx
              have nbz : v3.heap.size < v4.heap.size := by rw [← hal4]; simp
              clear o00 o01 o02 o03 m0 m0n
              have HC4 := Lib.hid (via HC3.out hbn)
              clear HC3
              have bx := BX0.out.on hbn BZ0.out
              have bz : w.heap.size < v4.heap.size := by have := hbn.size; have := BZ0.out; omega
              clear BX0 BZ0
              have BX0 := Lib.hid bx; have BZ0 := Lib.hid bz
              clear bx bz
              obtain ⟨p4, hp4⟩ : ∃ b, v3.heap.size = b := ⟨_, rfl⟩
              rw [hp4] at nbx nbz ⊢
              have BX1 := Lib.hid nbx; have BZ1 := Lib.hid nbz
              clear nbx nbz hp4
              clear hbn hal4
              obtain ⟨o00, o01, o02, o03⟩ := BX0.out
              have m0 : w.heap.size < v4.heap.size := BZ0.out
              have m0n : w.heap.size ≠ v4.heap.size := Nat.ne_of_lt BZ0.out
              obtain ⟨o10, o11, o12, o13⟩ := BX1.out
              have m1 : p4 < v4.heap.size := BZ1.out
              have m1n : p4 ≠ v4.heap.size := Nat.ne_of_lt BZ1.out
              try go_wp2
              go_ret
              exact ⟨rfl, HC4.out⟩
            · skip
              have h1 : -1000 ≤ d := by omega
              have h2 : d ≤ 1000 := by omega
              have h3 : -1000 ≤ e := by omega
              have h4 : e ≤ 1000 := by omega
              obtain ⟨w1, w2⟩ := NE.out h1 h2 h3 h4
              go_enter Tryd.func8, Tryd.ntmps8
              go_wp2_with fail
              generalize hal1 : w.alloc (.cells #[.int .i64 (c), .int .i64 (r), .bool true, .bool true] 23) = v1
              have hbn := al1 w (.cells #[.int .i64 (c), .int .i64 (r), .bool true, .bool true] 23)
              rw [hal1] at hbn
              have nbx := BoxR.new w c r true true
              rw [hal1] at nbx
              have nbz : w.heap.size < v1.heap.size := by rw [← hal1]; simp
              have HC1 := Lib.hid hbn
              have BX0 := Lib.hid nbx; have BZ0 := Lib.hid nbz
              clear nbx nbz
              clear hbn hal1
              refine (shown_any _ (HT.out.below HC1.out)).mono ?_
              rintro e v2 ⟨rfl, hbn⟩
              have HC2 := Lib.hid (via HC1.out hbn)
              clear HC1
              have bx := BX0.out.on hbn BZ0.out
              have bz : w.heap.size < v2.heap.size := by have := hbn.size; have := BZ0.out; omega
              clear BX0 BZ0
              have BX0 := Lib.hid bx; have BZ0 := Lib.hid bz
              clear bx bz
              clear hbn
              obtain ⟨o00, o01, o02, o03⟩ := BX0.out
              have m0 : w.heap.size < v2.heap.size := BZ0.out
              have m0n : w.heap.size ≠ v2.heap.size := Nat.ne_of_lt BZ0.out
              go_wp2_with fail
              refine (M1.out _).mono ?_
              rintro e v3 ⟨rfl, hbn⟩
              clear o00 o01 o02 o03 m0 m0n
              have HC3 := Lib.hid (via HC2.out hbn)
              clear HC2
              have bx := BX0.out.on hbn BZ0.out
              have bz : w.heap.size < v3.heap.size := by have := hbn.size; have := BZ0.out; omega
              clear BX0 BZ0
              have BX0 := Lib.hid bx; have BZ0 := Lib.hid bz
              clear bx bz
              clear hbn
              obtain ⟨o00, o01, o02, o03⟩ := BX0.out
              have m0 : w.heap.size < v3.heap.size := BZ0.out
              have m0n : w.heap.size ≠ v3.heap.size := Nat.ne_of_lt BZ0.out
              go_wp2_with fail
              generalize hal4 : v3.alloc (.cells #[.int .i64 (c), .int .i64 (r), .bool true, .bool true] 23) = v4
              have hbn := al1 v3 (.cells #[.int .i64 (c), .int .i64 (r), .bool true, .bool true] 23)
              rw [hal4] at hbn
              have nbx := BoxR.new v3 c r true true
              rw [hal4] at nbx
              have nbz : v3.heap.size < v4.heap.size := by rw [← hal4]; simp
              clear o00 o01 o02 o03 m0 m0n
              have HC4 := Lib.hid (via HC3.out hbn)
              clear HC3
              have bx := BX0.out.on hbn BZ0.out
              have bz : w.heap.size < v4.heap.size := by have := hbn.size; have := BZ0.out; omega
              clear BX0 BZ0
              have BX0 := Lib.hid bx; have BZ0 := Lib.hid bz
              clear bx bz
              obtain ⟨p4, hp4⟩ : ∃ b, v3.heap.size = b := ⟨_, rfl⟩
              rw [hp4] at nbx nbz ⊢
              have BX1 := Lib.hid nbx; have BZ1 := Lib.hid nbz
              clear nbx nbz hp4
              clear hbn hal4
              obtain ⟨o00, o01, o02, o03⟩ := BX0.out
              have m0 : w.heap.size < v4.heap.size := BZ0.out
              have m0n : w.heap.size ≠ v4.heap.size := Nat.ne_of_lt BZ0.out
              obtain ⟨o10, o11, o12, o13⟩ := BX1.out
              have m1 : p4 < v4.heap.size := BZ1.out
              have m1n : p4 ≠ v4.heap.size := Nat.ne_of_lt BZ1.out
              refine (M3.out h1 h2 h3 h4 _).mono ?_
              rintro e v5 ⟨rfl, hbn⟩
              clear o00 o01 o02 o03 m0 m0n o10 o11 o12 o13 m1 m1n
              have HC5 := Lib.hid (via HC4.out hbn)
              clear HC4
              have bx := BX0.out.on hbn BZ0.out
              have bz : w.heap.size < v5.heap.size := by have := hbn.size; have := BZ0.out; omega
              clear BX0 BZ0
              have BX0 := Lib.hid bx; have BZ0 := Lib.hid bz
              clear bx bz
              have bx := BX1.out.on hbn BZ1.out
              have bz : p4 < v5.heap.size := by have := hbn.size; have := BZ1.out; omega
              clear BX1 BZ1
              have BX1 := Lib.hid bx; have BZ1 := Lib.hid bz
              clear bx bz
              clear hbn
              obtain ⟨o00, o01, o02, o03⟩ := BX0.out
              have m0 : w.heap.size < v5.heap.size := BZ0.out
              have m0n : w.heap.size ≠ v5.heap.size := Nat.ne_of_lt BZ0.out
              obtain ⟨o10, o11, o12, o13⟩ := BX1.out
              have m1 : p4 < v5.heap.size := BZ1.out
              have m1n : p4 ≠ v5.heap.size := Nat.ne_of_lt BZ1.out
              go_wp2_with fail
              generalize hal6 : v5.alloc (.cells #[.int .i64 (c), .int .i64 (r), .bool true, .bool true] 23) = v6
              have hbn := al1 v5 (.cells #[.int .i64 (c), .int .i64 (r), .bool true, .bool true] 23)
              rw [hal6] at hbn
              have nbx := BoxR.new v5 c r true true
              rw [hal6] at nbx
              have nbz : v5.heap.size < v6.heap.size := by rw [← hal6]; simp
              clear o00 o01 o02 o03 m0 m0n o10 o11 o12 o13 m1 m1n
              have HC6 := Lib.hid (via HC5.out hbn)
              clear HC5
              have bx := BX0.out.on hbn BZ0.out
              have bz : w.heap.size < v6.heap.size := by have := hbn.size; have := BZ0.out; omega
              clear BX0 BZ0
              have BX0 := Lib.hid bx; have BZ0 := Lib.hid bz
              clear bx bz
              have bx := BX1.out.on hbn BZ1.out
              have bz : p4 < v6.heap.size := by have := hbn.size; have := BZ1.out; omega
              clear BX1 BZ1
              have BX1 := Lib.hid bx; have BZ1 := Lib.hid bz
              clear bx bz
              obtain ⟨p6, hp6⟩ : ∃ b, v5.heap.size = b := ⟨_, rfl⟩
              rw [hp6] at nbx nbz ⊢
              have BX2 := Lib.hid nbx; have BZ2 := Lib.hid nbz
              clear nbx nbz hp6
              clear hbn hal6
              obtain ⟨o00, o01, o02, o03⟩ := BX0.out
              have m0 : w.heap.size < v6.heap.size := BZ0.out
              have m0n : w.heap.size ≠ v6.heap.size := Nat.ne_of_lt BZ0.out
              obtain ⟨o10, o11, o12, o13⟩ := BX1.out
              have m1 : p4 < v6.heap.size := BZ1.out
              have m1n : p4 ≠ v6.heap.size := Nat.ne_of_lt BZ1.out
              obtain ⟨o20, o21, o22, o23⟩ := BX2.out
              have m2 : p6 < v6.heap.size := BZ2.out
              have m2n : p6 ≠ v6.heap.size := Nat.ne_of_lt BZ2.out
              try go_wp2
              go_ret
              exact ⟨rfl, HC6.out⟩
  · rw [Bool.not_eq_true] at g
    rw [there_none g, g] at M1
    clear g d0 d1 e0 e1
    go_enter Tryd.func8, Tryd.ntmps8
    go_wp2_with fail
    generalize hal1 : w.alloc (.cells #[.int .i64 (c), .int .i64 (r), .bool x, .bool y] 23) = v1
    have hbn := al1 w (.cells #[.int .i64 (c), .int .i64 (r), .bool x, .bool y] 23)
    rw [hal1] at hbn
    have nbx := BoxR.new w c r x y
    rw [hal1] at nbx
    have nbz : w.heap.size < v1.heap.size := by rw [← hal1]; simp
    have HC1 := Lib.hid hbn
    have BX0 := Lib.hid nbx; have BZ0 := Lib.hid nbz
    clear nbx nbz
    clear hbn hal1
    refine (shown_any _ (HT.out.below HC1.out)).mono ?_
    rintro e v2 ⟨rfl, hbn⟩
    have HC2 := Lib.hid (via HC1.out hbn)
    clear HC1
    have bx := BX0.out.on hbn BZ0.out
    have bz : w.heap.size < v2.heap.size := by have := hbn.size; have := BZ0.out; omega
    clear BX0 BZ0
    have BX0 := Lib.hid bx; have BZ0 := Lib.hid bz
    clear bx bz
    clear hbn
    obtain ⟨o00, o01, o02, o03⟩ := BX0.out
    have m0 : w.heap.size < v2.heap.size := BZ0.out
    have m0n : w.heap.size ≠ v2.heap.size := Nat.ne_of_lt BZ0.out
    go_wp2_with fail
    refine (M1.out _).mono ?_
    rintro e v3 ⟨rfl, hbn⟩
    clear o00 o01 o02 o03 m0 m0n
    have HC3 := Lib.hid (via HC2.out hbn)
    clear HC2
    have bx := BX0.out.on hbn BZ0.out
    have bz : w.heap.size < v3.heap.size := by have := hbn.size; have := BZ0.out; omega
    clear BX0 BZ0
    have BX0 := Lib.hid bx; have BZ0 := Lib.hid bz
    clear bx bz
    clear hbn
    obtain ⟨o00, o01, o02, o03⟩ := BX0.out
    have m0 : w.heap.size < v3.heap.size := BZ0.out
    have m0n : w.heap.size ≠ v3.heap.size := Nat.ne_of_lt BZ0.out
    go_wp2_with fail
    generalize hal4 : v3.alloc (.cells #[.int .i64 (0), .int .i64 (0), .bool false, .bool false] 23) = v4
    have hbn := al1 v3 (.cells #[.int .i64 (0), .int .i64 (0), .bool false, .bool false] 23)
    rw [hal4] at hbn
    have nbx := BoxR.new v3 0 0 false false
    rw [hal4] at nbx
    have nbz : v3.heap.size < v4.heap.size := by rw [← hal4]; simp
    clear o00 o01 o02 o03 m0 m0n
    have HC4 := Lib.hid (via HC3.out hbn)
    clear HC3
    have bx := BX0.out.on hbn BZ0.out
    have bz : w.heap.size < v4.heap.size := by have := hbn.size; have := BZ0.out; omega
    clear BX0 BZ0
    have BX0 := Lib.hid bx; have BZ0 := Lib.hid bz
    clear bx bz
    obtain ⟨p4, hp4⟩ : ∃ b, v3.heap.size = b := ⟨_, rfl⟩
    rw [hp4] at nbx nbz ⊢
    have BX1 := Lib.hid nbx; have BZ1 := Lib.hid nbz
    clear nbx nbz hp4
    clear hbn hal4
    obtain ⟨o00, o01, o02, o03⟩ := BX0.out
    have m0 : w.heap.size < v4.heap.size := BZ0.out
    have m0n : w.heap.size ≠ v4.heap.size := Nat.ne_of_lt BZ0.out
    obtain ⟨o10, o11, o12, o13⟩ := BX1.out
    have m1 : p4 < v4.heap.size := BZ1.out
    have m1n : p4 ≠ v4.heap.size := Nat.ne_of_lt BZ1.out
    try go_wp2
    go_ret
    exact ⟨rfl, HC4.out⟩
end Go.Proofs.YtikcggbkkgipoaaDoor
