/-
  CellBack: walked.
-/
import Derived.Test.YtikcggbkkgipoaaDoorJ5a
namespace Go.Proofs.YtikcggbkkgipoaaDoor
open Go.RowKit Go.Shelf

theorem belowDN {B : Nat} {a w : World} (h : Below B a w) (n : Nat) : Below B a (w.drewN n) := h.trans ⟨rfl, rfl, rfl, Nat.le_refl _, fun _ _ => rfl⟩
theorem prtV_len (c r : Int) (x y : Bool) : (prtV c r x y).length ≤ 1000 := by
  unfold prtV
  by_cases g : rgt c r = true
  · rw [if_pos g]
    obtain ⟨c0, c1, r0, r1⟩ := rgt_iff.1 g
    have h1 := colN_len c
    have h2 := decDigits_len (r + 1).toNat (by omega)
    have h3 : ∀ b, (dol b).length ≤ 1 := fun b => by cases b <;> decide
    have h4 := h3 x
    have h5 := h3 y
    simp only [List.length_append]
    omega
  · rw [if_neg g]; simp
theorem capital_to (s : ByteArray) (hs : s.size ≤ 1000) (W : World) : Calls Tryd.prog 30 #[.string s] W fun e w' => e = .returned (.string ⟨(s.data.toList.map capB).toArray⟩) ∧ Below W.heap.size W w' := by
  refine (capital_any s W hs).mono ?_
  rintro e w' ⟨⟨S, rfl, hS⟩, hb⟩
  rw [str_eq hS]; exact ⟨rfl, hb⟩
theorem idx_at {c r : Int} (g : rgt c r = true) : idx c r = 64 * r + c ∧ atC (64 * r + c) = c ∧ atR (64 * r + c) = r := by
  obtain ⟨c0, c1, r0, r1⟩ := rgt_iff.1 g
  refine ⟨if_pos g, ?_, ?_⟩
  · unfold atC; rw [if_neg (by omega)]; omega
  · unfold atR; rw [if_neg (by omega)]; omega
theorem at_idx {i : Int} (g : rgt (atC i) (atR i) = true) : idx (atC i) (atR i) = i := by
  obtain ⟨c0, c1, r0, r1⟩ := rgt_iff.1 g
  unfold idx
  rw [if_pos g]
  unfold atC atR at *
  split at c0
  · omega
  · rename_i h
    rw [if_neg h, if_neg h]; omega
theorem ifF {c r : Int} {x y : Bool} (g : rgt c r = false) : prtV c r x y = [] := if_neg (by rw [g]; simp)
set_option maxHeartbeats 8000000 in
theorem cellBack_any (c r : Int) (x y : Bool) (s : ByteArray) (i : Int) (i0 : -9223372036854775808 ≤ i) (i1 : i ≤ 9223372036854775807) (w : World) (T : Tabs w) :
    Calls Tryd.prog 6 #[(Value.agg #[Value.int .i64 (c), Value.int .i64 (r), Value.bool x, Value.bool y]), .string s, .int .i64 i] w fun en w' => en = .returned (.bool true) ∧ Below w.heap.size w w' := by
  have HT := Lib.hid T
  clear T
  by_cases hs : s.size ≤ 1000
  · have hs' : ¬ (1000 : Int) < (s.size : Int) := by omega
    obtain ⟨C, R, X, Y, E, hv⟩ := parV_agg s.data.toList
    have P2 := Lib.hid (parse_to hv hs)
    have CP := Lib.hid (capital_to s hs)
    have Q1 := Lib.hid (print_to c r x y)
    have Q3 := Lib.hid (print_to C R X Y)
    have A2 := Lib.hid (at_any i i0 i1)
    have R1 := Lib.hid (right_any c r x y)
    have R3 := Lib.hid (right_any (atC i) (atR i) false false)
    have I3 := Lib.hid (index_any (atC i) (atR i) false false)
    have PQ : Hid (E = 0 → prtV C R X Y = s.data.toList.map capB) := fun h => prt_par (by rw [hv, h])
    have P1L := Lib.hid (fun (v : Value) (e : Int) (h : parV (prtV c r x y) = (v, e)) => parse_to (s := ⟨(prtV c r x y).toArray⟩) (v := v) (E := e) (by simpa using h) (by rw [bytes_size]; simpa using prtV_len c r x y))
    have GI := Lib.hid (fun (h : rgt (atC i) (atR i) = true) => at_idx h)
    obtain ⟨gi, hgi⟩ : ∃ g, rgt (atC i) (atR i) = g := ⟨_, rfl⟩
    rw [hgi] at R3 GI
    have I3' := fun (h : gi = true) => by have h2 := I3.out; rw [GI.out h] at h2; exact h2
    clear I3
    have I3 := Lib.hid I3'
    clear I3' GI hgi
    generalize atC i = aC at *
    generalize atR i = aR at *
    clear i0 i1 hv hs
    by_cases g : rgt c r = true
    · skip
      have PP := Lib.hid (P1L.out _ _ (par_prt g))
      obtain ⟨j1, j2, j3⟩ := idx_at g
      obtain ⟨c0, c1, r0, r1⟩ := rgt_iff.1 g
      have I1 := Lib.hid (index_any c r x y)
      have A1 := Lib.hid (at_any (64 * r + c) (by omega) (by omega))
      have RF := Lib.hid (ref_any c r)
      rw [j1] at I1
      rw [j2, j3] at A1
      generalize 64 * r + c = J at *
      rw [g] at R1
      clear g j1 j2 j3 c0 c1 r0 r1
      clear P1L
      generalize (⟨(prtV c r x y).toArray⟩ : ByteArray) = PS at *
      go_enter Tryd.func6, Tryd.ntmps6
      go_wp2_with fail
      generalize hal1 : w.alloc (.cells #[.int .i64 (c), .int .i64 (r), .bool x, .bool y] 23) = v1
      have hbn := al1 w (.cells #[.int .i64 (c), .int .i64 (r), .bool x, .bool y] 23)
      rw [hal1] at hbn
      have nbx := BoxR.new w c r x y
      rw [hal1] at nbx
      have nbz : w.heap.size < v1.heap.size := by rw [← hal1]; simp
      have HC1 := Lib.hid hbn
      have BX0 := Lib.hid nbx; have BZ0 := Lib.hid nbz
      clear nbx nbz
      clear hbn hal1
      refine (shown_any _ (HT.out.below HC1.out)).mono ?_
      rintro e v2 ⟨rfl, hbn⟩
      have HC2 := Lib.hid (via HC1.out hbn)
      clear HC1
      have bx := BX0.out.on hbn BZ0.out
      have bz : w.heap.size < v2.heap.size := by have := hbn.size; have := BZ0.out; omega
      clear BX0 BZ0
      have BX0 := Lib.hid bx; have BZ0 := Lib.hid bz
      clear bx bz
      clear hbn
      obtain ⟨o00, o01, o02, o03⟩ := BX0.out
      have m0 : w.heap.size < v2.heap.size := BZ0.out
      have m0n : w.heap.size ≠ v2.heap.size := Nat.ne_of_lt BZ0.out
      go_wp2_with fail
      refine (R1.out _).mono ?_
      rintro e v3 ⟨rfl, hbn⟩
      clear o00 o01 o02 o03 m0 m0n
      have HC3 := Lib.hid (via HC2.out hbn)
      clear HC2
      have bx := BX0.out.on hbn BZ0.out
      have bz : w.heap.size < v3.heap.size := by have := hbn.size; have := BZ0.out; omega
      clear BX0 BZ0
      have BX0 := Lib.hid bx; have BZ0 := Lib.hid bz
      clear bx bz
      clear hbn
      obtain ⟨o00, o01, o02, o03⟩ := BX0.out
      have m0 : w.heap.size < v3.heap.size := BZ0.out
      have m0n : w.heap.size ≠ v3.heap.size := Nat.ne_of_lt BZ0.out
      go_wp2_with fail
      refine (Q1.out _ (HT.out.below HC3.out)).mono ?_
      rintro e v4 ⟨rfl, hbn⟩
      clear o00 o01 o02 o03 m0 m0n
      have HC4 := Lib.hid (via HC3.out hbn)
      clear HC3
      have bx := BX0.out.on hbn BZ0.out
      have bz : w.heap.size < v4.heap.size := by have := hbn.size; have := BZ0.out; omega
      clear BX0 BZ0
      have BX0 := Lib.hid bx; have BZ0 := Lib.hid bz
      clear bx bz
      clear hbn
      obtain ⟨o00, o01, o02, o03⟩ := BX0.out
      have m0 : w.heap.size < v4.heap.size := BZ0.out
      have m0n : w.heap.size ≠ v4.heap.size := Nat.ne_of_lt BZ0.out
      go_wp2_with fail
      refine (PP.out _).mono ?_
      rintro e v5 ⟨rfl, hbn⟩
      clear o00 o01 o02 o03 m0 m0n
      have HC5 := Lib.hid (via HC4.out hbn)
      clear HC4
      have bx := BX0.out.on hbn BZ0.out
      have bz : w.heap.size < v5.heap.size := by have := hbn.size; have := BZ0.out; omega
      clear BX0 BZ0
      have BX0 := Lib.hid bx; have BZ0 := Lib.hid bz
      clear bx bz
      clear hbn
      obtain ⟨o00, o01, o02, o03⟩ := BX0.out
      have m0 : w.heap.size < v5.heap.size := BZ0.out
      have m0n : w.heap.size ≠ v5.heap.size := Nat.ne_of_lt BZ0.out
      go_wp2_with fail
      generalize hal6 : v5.alloc (.cells #[.int .i64 (c), .int .i64 (r), .bool x, .bool y] 23) = v6
      have hbn := al1 v5 (.cells #[.int .i64 (c), .int .i64 (r), .bool x, .bool y] 23)
      rw [hal6] at hbn
      have nbx := BoxR.new v5 c r x y
      rw [hal6] at nbx
      have nbz : v5.heap.size < v6.heap.size := by rw [← hal6]; simp
      clear o00 o01 o02 o03 m0 m0n
      have HC6 := Lib.hid (via HC5.out hbn)
      clear HC5
      have bx := BX0.out.on hbn BZ0.out
      have bz : w.heap.size < v6.heap.size := by have := hbn.size; have := BZ0.out; omega
      clear BX0 BZ0
      have BX0 := Lib.hid bx; have BZ0 := Lib.hid bz
      clear bx bz
      obtain ⟨p6, hp6⟩ : ∃ b, v5.heap.size = b := ⟨_, rfl⟩
      rw [hp6] at nbx nbz ⊢
      have BX1 := Lib.hid nbx; have BZ1 := Lib.hid nbz
      clear nbx nbz hp6
      clear hbn hal6
      obtain ⟨o00, o01, o02, o03⟩ := BX0.out
      have m0 : w.heap.size < v6.heap.size := BZ0.out
      have m0n : w.heap.size ≠ v6.heap.size := Nat.ne_of_lt BZ0.out
      obtain ⟨o10, o11, o12, o13⟩ := BX1.out
      have m1 : p6 < v6.heap.size := BZ1.out
      have m1n : p6 ≠ v6.heap.size := Nat.ne_of_lt BZ1.out
      have keepS : ∀ A Z : World, ((A.cell? ⟨w.heap.size, 0, none⟩ = some (.int .i64 c) ∧ A.cell? ⟨w.heap.size, 1, none⟩ = some (.int .i64 r) ∧ A.cell? ⟨w.heap.size, 2, none⟩ = some (.bool x) ∧ A.cell? ⟨w.heap.size, 3, none⟩ = some (.bool y) ∧ A.cell? ⟨p6, 0, none⟩ = some (.int .i64 c) ∧ A.cell? ⟨p6, 1, none⟩ = some (.int .i64 r) ∧ A.cell? ⟨p6, 2, none⟩ = some (.bool x) ∧ A.cell? ⟨p6, 3, none⟩ = some (.bool y)) ∧ ((w.heap.size < A.heap.size ∧ p6 < A.heap.size) ∧ Below w.heap.size w A)) → Below A.heap.size A Z → ((Z.cell? ⟨w.heap.size, 0, none⟩ = some (.int .i64 c) ∧ Z.cell? ⟨w.heap.size, 1, none⟩ = some (.int .i64 r) ∧ Z.cell? ⟨w.heap.size, 2, none⟩ = some (.bool x) ∧ Z.cell? ⟨w.heap.size, 3, none⟩ = some (.bool y) ∧ Z.cell? ⟨p6, 0, none⟩ = some (.int .i64 c) ∧ Z.cell? ⟨p6, 1, none⟩ = some (.int .i64 r) ∧ Z.cell? ⟨p6, 2, none⟩ = some (.bool x) ∧ Z.cell? ⟨p6, 3, none⟩ = some (.bool y)) ∧ ((w.heap.size < Z.heap.size ∧ p6 < Z.heap.size) ∧ Below w.heap.size w Z)) := by
        rintro A Z ⟨hc, ⟨l0, l1⟩, hb⟩ hx
        have hz := hx.size
        refine ⟨?_, ⟨by omega, by omega⟩, via hb hx⟩
        simp only [hx.cell (p := ⟨w.heap.size, _, none⟩) l0, hx.cell (p := ⟨p6, _, none⟩) l1]
        exact hc
      have KS := Lib.hid keepS
      clear keepS
      have FIN := Lib.hid (fun (W : World) (h : (W.cell? ⟨w.heap.size, 0, none⟩ = some (.int .i64 c) ∧ W.cell? ⟨w.heap.size, 1, none⟩ = some (.int .i64 r) ∧ W.cell? ⟨w.heap.size, 2, none⟩ = some (.bool x) ∧ W.cell? ⟨w.heap.size, 3, none⟩ = some (.bool y) ∧ W.cell? ⟨p6, 0, none⟩ = some (.int .i64 c) ∧ W.cell? ⟨p6, 1, none⟩ = some (.int .i64 r) ∧ W.cell? ⟨p6, 2, none⟩ = some (.bool x) ∧ W.cell? ⟨p6, 3, none⟩ = some (.bool y)) ∧ ((w.heap.size < W.heap.size ∧ p6 < W.heap.size) ∧ Below w.heap.size w W)) => h.2.2)
      have ST : (v6.cell? ⟨w.heap.size, 0, none⟩ = some (.int .i64 c) ∧ v6.cell? ⟨w.heap.size, 1, none⟩ = some (.int .i64 r) ∧ v6.cell? ⟨w.heap.size, 2, none⟩ = some (.bool x) ∧ v6.cell? ⟨w.heap.size, 3, none⟩ = some (.bool y) ∧ v6.cell? ⟨p6, 0, none⟩ = some (.int .i64 c) ∧ v6.cell? ⟨p6, 1, none⟩ = some (.int .i64 r) ∧ v6.cell? ⟨p6, 2, none⟩ = some (.bool x) ∧ v6.cell? ⟨p6, 3, none⟩ = some (.bool y)) ∧ ((w.heap.size < v6.heap.size ∧ p6 < v6.heap.size) ∧ Below w.heap.size w v6) := ⟨⟨o00, o01, o02, o03, o10, o11, o12, o13⟩, ⟨m0, m1⟩, HC6.out⟩
      have ST := Lib.hid ST
      clear o00 o01 o02 o03 m0 m0n o10 o11 o12 o13 m1 m1n
      go_wp2
      go_region_held3 (fun W => (W.cell? ⟨w.heap.size, 0, none⟩ = some (.int .i64 c) ∧ W.cell? ⟨w.heap.size, 1, none⟩ = some (.int .i64 r) ∧ W.cell? ⟨w.heap.size, 2, none⟩ = some (.bool x) ∧ W.cell? ⟨w.heap.size, 3, none⟩ = some (.bool y) ∧ W.cell? ⟨p6, 0, none⟩ = some (.int .i64 c) ∧ W.cell? ⟨p6, 1, none⟩ = some (.int .i64 r) ∧ W.cell? ⟨p6, 2, none⟩ = some (.bool x) ∧ W.cell? ⟨p6, 3, none⟩ = some (.bool y)) ∧ ((w.heap.size < W.heap.size ∧ p6 < W.heap.size) ∧ Below w.heap.size w W)) (first | exact ⟨ST.out.1, ST.out.2.1, ST.out.2.2.drew⟩ | exact KS.out _ _ (by assumption) (by assumption)) (first | (go_at_call 16; refine (I1.out _).mono ?_; rintro e wz ⟨rfl, hbz⟩) | (go_at_call 18; refine (A1.out _).mono ?_; rintro e wz ⟨rfl, hbz⟩) | (go_at_call 29; refine (RF.out _).mono ?_; rintro e wz ⟨rfl, hbz⟩))
      all_goals
        by_cases hE : E = 0
        · have hEb : (E == 0) = true := by simpa using hE
          rw [PQ.out hE] at Q3
          generalize (⟨(s.data.toList.map capB).toArray⟩ : ByteArray) = CS at *
          cases gi
          · skip
            go_wp2_with fail
            refine (P2.out _).mono ?_
            rintro e u1 ⟨rfl, hbu⟩
            have HU := Lib.hid (via (FIN.out _ (by assumption)) hbu)
            clear hbu
            go_wp2_with fail
            generalize hal21 : u1.alloc (.cells #[.int .i64 (C), .int .i64 (R), .bool X, .bool Y] 23) = v21
            have hbn := al1 u1 (.cells #[.int .i64 (C), .int .i64 (R), .bool X, .bool Y] 23)
            rw [hal21] at hbn
            have nbx := BoxR.new u1 C R X Y
            rw [hal21] at nbx
            have nbz : u1.heap.size < v21.heap.size := by rw [← hal21]; simp
            have HC21 := Lib.hid (via HU.out hbn)
            clear HU
            obtain ⟨p21, hp21⟩ : ∃ b, u1.heap.size = b := ⟨_, rfl⟩
            rw [hp21] at nbx nbz ⊢
            have BX0 := Lib.hid nbx; have BZ0 := Lib.hid nbz
            clear nbx nbz hp21
            clear hbn hal21
            obtain ⟨o00, o01, o02, o03⟩ := BX0.out
            have m0 : p21 < v21.heap.size := BZ0.out
            have m0n : p21 ≠ v21.heap.size := Nat.ne_of_lt BZ0.out
            refine (Q3.out _ (HT.out.below HC21.out)).mono ?_
            rintro e v22 ⟨rfl, hbn⟩
            clear o00 o01 o02 o03 m0 m0n
            have HC22 := Lib.hid (via HC21.out hbn)
            clear HC21
            have bx := BX0.out.on hbn BZ0.out
            have bz : p21 < v22.heap.size := by have := hbn.size; have := BZ0.out; omega
            clear BX0 BZ0
            have BX0 := Lib.hid bx; have BZ0 := Lib.hid bz
            clear bx bz
            clear hbn
            obtain ⟨o00, o01, o02, o03⟩ := BX0.out
            have m0 : p21 < v22.heap.size := BZ0.out
            have m0n : p21 ≠ v22.heap.size := Nat.ne_of_lt BZ0.out
            go_wp2_with fail
            refine (CP.out _).mono ?_
            rintro e v23 ⟨rfl, hbn⟩
            clear o00 o01 o02 o03 m0 m0n
            have HC23 := Lib.hid (via HC22.out hbn)
            clear HC22
            have bx := BX0.out.on hbn BZ0.out
            have bz : p21 < v23.heap.size := by have := hbn.size; have := BZ0.out; omega
            clear BX0 BZ0
            have BX0 := Lib.hid bx; have BZ0 := Lib.hid bz
            clear bx bz
            clear hbn
            obtain ⟨o00, o01, o02, o03⟩ := BX0.out
            have m0 : p21 < v23.heap.size := BZ0.out
            have m0n : p21 ≠ v23.heap.size := Nat.ne_of_lt BZ0.out
            go_wp2_with fail
            refine (A2.out _).mono ?_
            rintro e v24 ⟨rfl, hbn⟩
            clear o00 o01 o02 o03 m0 m0n
            have HC24 := Lib.hid (via HC23.out hbn)
            clear HC23
            have bx := BX0.out.on hbn BZ0.out
            have bz : p21 < v24.heap.size := by have := hbn.size; have := BZ0.out; omega
            clear BX0 BZ0
            have BX0 := Lib.hid bx; have BZ0 := Lib.hid bz
            clear bx bz
            clear hbn
            obtain ⟨o00, o01, o02, o03⟩ := BX0.out
            have m0 : p21 < v24.heap.size := BZ0.out
            have m0n : p21 ≠ v24.heap.size := Nat.ne_of_lt BZ0.out
            go_wp2_with fail
            generalize hal25 : v24.alloc (.cells #[.int .i64 (aC), .int .i64 (aR), .bool false, .bool false] 23) = v25
            have hbn := al1 v24 (.cells #[.int .i64 (aC), .int .i64 (aR), .bool false, .bool false] 23)
            rw [hal25] at hbn
            have nbx := BoxR.new v24 aC aR false false
            rw [hal25] at nbx
            have nbz : v24.heap.size < v25.heap.size := by rw [← hal25]; simp
            clear o00 o01 o02 o03 m0 m0n
            have HC25 := Lib.hid (via HC24.out hbn)
            clear HC24
            have bx := BX0.out.on hbn BZ0.out
            have bz : p21 < v25.heap.size := by have := hbn.size; have := BZ0.out; omega
            clear BX0 BZ0
            have BX0 := Lib.hid bx; have BZ0 := Lib.hid bz
            clear bx bz
            obtain ⟨p25, hp25⟩ : ∃ b, v24.heap.size = b := ⟨_, rfl⟩
            rw [hp25] at nbx nbz ⊢
            have BX1 := Lib.hid nbx; have BZ1 := Lib.hid nbz
            clear nbx nbz hp25
            clear hbn hal25
            obtain ⟨o00, o01, o02, o03⟩ := BX0.out
            have m0 : p21 < v25.heap.size := BZ0.out
            have m0n : p21 ≠ v25.heap.size := Nat.ne_of_lt BZ0.out
            obtain ⟨o10, o11, o12, o13⟩ := BX1.out
            have m1 : p25 < v25.heap.size := BZ1.out
            have m1n : p25 ≠ v25.heap.size := Nat.ne_of_lt BZ1.out
            refine (R3.out _).mono ?_
            rintro e v26 ⟨rfl, hbn⟩
            clear o00 o01 o02 o03 m0 m0n o10 o11 o12 o13 m1 m1n
            have HC26 := Lib.hid (via HC25.out hbn)
            clear HC25
            have bx := BX0.out.on hbn BZ0.out
            have bz : p21 < v26.heap.size := by have := hbn.size; have := BZ0.out; omega
            clear BX0 BZ0
            have BX0 := Lib.hid bx; have BZ0 := Lib.hid bz
            clear bx bz
            have bx := BX1.out.on hbn BZ1.out
            have bz : p25 < v26.heap.size := by have := hbn.size; have := BZ1.out; omega
            clear BX1 BZ1
            have BX1 := Lib.hid bx; have BZ1 := Lib.hid bz
            clear bx bz
            clear hbn
            obtain ⟨o00, o01, o02, o03⟩ := BX0.out
            have m0 : p21 < v26.heap.size := BZ0.out
            have m0n : p21 ≠ v26.heap.size := Nat.ne_of_lt BZ0.out
            obtain ⟨o10, o11, o12, o13⟩ := BX1.out
            have m1 : p25 < v26.heap.size := BZ1.out
            have m1n : p25 ≠ v26.heap.size := Nat.ne_of_lt BZ1.out
            try go_wp2
            go_ret
            exact ⟨rfl, HC26.out⟩
          · skip
            go_wp2_with fail
            refine (P2.out _).mono ?_
            rintro e u1 ⟨rfl, hbu⟩
            have HU := Lib.hid (via (FIN.out _ (by assumption)) hbu)
            clear hbu
            go_wp2_with fail
            generalize hal21 : u1.alloc (.cells #[.int .i64 (C), .int .i64 (R), .bool X, .bool Y] 23) = v21
            have hbn := al1 u1 (.cells #[.int .i64 (C), .int .i64 (R), .bool X, .bool Y] 23)
            rw [hal21] at hbn
            have nbx := BoxR.new u1 C R X Y
            rw [hal21] at nbx
            have nbz : u1.heap.size < v21.heap.size := by rw [← hal21]; simp
            have HC21 := Lib.hid (via HU.out hbn)
            clear HU
            obtain ⟨p21, hp21⟩ : ∃ b, u1.heap.size = b := ⟨_, rfl⟩
            rw [hp21] at nbx nbz ⊢
            have BX0 := Lib.hid nbx; have BZ0 := Lib.hid nbz
            clear nbx nbz hp21
            clear hbn hal21
            obtain ⟨o00, o01, o02, o03⟩ := BX0.out
            have m0 : p21 < v21.heap.size := BZ0.out
            have m0n : p21 ≠ v21.heap.size := Nat.ne_of_lt BZ0.out
            refine (Q3.out _ (HT.out.below HC21.out)).mono ?_
            rintro e v22 ⟨rfl, hbn⟩
            clear o00 o01 o02 o03 m0 m0n
            have HC22 := Lib.hid (via HC21.out hbn)
            clear HC21
            have bx := BX0.out.on hbn BZ0.out
            have bz : p21 < v22.heap.size := by have := hbn.size; have := BZ0.out; omega
            clear BX0 BZ0
            have BX0 := Lib.hid bx; have BZ0 := Lib.hid bz
            clear bx bz
            clear hbn
            obtain ⟨o00, o01, o02, o03⟩ := BX0.out
            have m0 : p21 < v22.heap.size := BZ0.out
            have m0n : p21 ≠ v22.heap.size := Nat.ne_of_lt BZ0.out
            go_wp2_with fail
            refine (CP.out _).mono ?_
            rintro e v23 ⟨rfl, hbn⟩
            clear o00 o01 o02 o03 m0 m0n
            have HC23 := Lib.hid (via HC22.out hbn)
            clear HC22
            have bx := BX0.out.on hbn BZ0.out
            have bz : p21 < v23.heap.size := by have := hbn.size; have := BZ0.out; omega
            clear BX0 BZ0
            have BX0 := Lib.hid bx; have BZ0 := Lib.hid bz
            clear bx bz
            clear hbn
            obtain ⟨o00, o01, o02, o03⟩ := BX0.out
            have m0 : p21 < v23.heap.size := BZ0.out
            have m0n : p21 ≠ v23.heap.size := Nat.ne_of_lt BZ0.out
            go_wp2_with fail
            refine (A2.out _).mono ?_
            rintro e v24 ⟨rfl, hbn⟩
            clear o00 o01 o02 o03 m0 m0n
            have HC24 := Lib.hid (via HC23.out hbn)
            clear HC23
            have bx := BX0.out.on hbn BZ0.out
            have bz : p21 < v24.heap.size := by have := hbn.size; have := BZ0.out; omega
            clear BX0 BZ0
            have BX0 := Lib.hid bx; have BZ0 := Lib.hid bz
            clear bx bz
            clear hbn
            obtain ⟨o00, o01, o02, o03⟩ := BX0.out
            have m0 : p21 < v24.heap.size := BZ0.out
            have m0n : p21 ≠ v24.heap.size := Nat.ne_of_lt BZ0.out
            go_wp2_with fail
            generalize hal25 : v24.alloc (.cells #[.int .i64 (aC), .int .i64 (aR), .bool false, .bool false] 23) = v25
            have hbn := al1 v24 (.cells #[.int .i64 (aC), .int .i64 (aR), .bool false, .bool false] 23)
            rw [hal25] at hbn
            have nbx := BoxR.new v24 aC aR false false
            rw [hal25] at nbx
            have nbz : v24.heap.size < v25.heap.size := by rw [← hal25]; simp
            clear o00 o01 o02 o03 m0 m0n
            have HC25 := Lib.hid (via HC24.out hbn)
            clear HC24
            have bx := BX0.out.on hbn BZ0.out
            have bz : p21 < v25.heap.size := by have := hbn.size; have := BZ0.out; omega
            clear BX0 BZ0
            have BX0 := Lib.hid bx; have BZ0 := Lib.hid bz
            clear bx bz
            obtain ⟨p25, hp25⟩ : ∃ b, v24.heap.size = b := ⟨_, rfl⟩
            rw [hp25] at nbx nbz ⊢
            have BX1 := Lib.hid nbx; have BZ1 := Lib.hid nbz
            clear nbx nbz hp25
            clear hbn hal25
            obtain ⟨o00, o01, o02, o03⟩ := BX0.out
            have m0 : p21 < v25.heap.size := BZ0.out
            have m0n : p21 ≠ v25.heap.size := Nat.ne_of_lt BZ0.out
            obtain ⟨o10, o11, o12, o13⟩ := BX1.out
            have m1 : p25 < v25.heap.size := BZ1.out
            have m1n : p25 ≠ v25.heap.size := Nat.ne_of_lt BZ1.out
            refine (R3.out _).mono ?_
            rintro e v26 ⟨rfl, hbn⟩
            clear o00 o01 o02 o03 m0 m0n o10 o11 o12 o13 m1 m1n
            have HC26 := Lib.hid (via HC25.out hbn)
            clear HC25
            have bx := BX0.out.on hbn BZ0.out
            have bz : p21 < v26.heap.size := by have := hbn.size; have := BZ0.out; omega
            clear BX0 BZ0
            have BX0 := Lib.hid bx; have BZ0 := Lib.hid bz
            clear bx bz
            have bx := BX1.out.on hbn BZ1.out
            have bz : p25 < v26.heap.size := by have := hbn.size; have := BZ1.out; omega
            clear BX1 BZ1
            have BX1 := Lib.hid bx; have BZ1 := Lib.hid bz
            clear bx bz
            clear hbn
            obtain ⟨o00, o01, o02, o03⟩ := BX0.out
            have m0 : p21 < v26.heap.size := BZ0.out
            have m0n : p21 ≠ v26.heap.size := Nat.ne_of_lt BZ0.out
            obtain ⟨o10, o11, o12, o13⟩ := BX1.out
            have m1 : p25 < v26.heap.size := BZ1.out
            have m1n : p25 ≠ v26.heap.size := Nat.ne_of_lt BZ1.out
            go_wp2_with fail
            refine (I3.out (by trivial) _).mono ?_
            rintro e v27 ⟨rfl, hbn⟩
            clear o00 o01 o02 o03 m0 m0n o10 o11 o12 o13 m1 m1n
            have HC27 := Lib.hid (via HC26.out hbn)
            clear HC26
            have bx := BX0.out.on hbn BZ0.out
            have bz : p21 < v27.heap.size := by have := hbn.size; have := BZ0.out; omega
            clear BX0 BZ0
            have BX0 := Lib.hid bx; have BZ0 := Lib.hid bz
            clear bx bz
            have bx := BX1.out.on hbn BZ1.out
            have bz : p25 < v27.heap.size := by have := hbn.size; have := BZ1.out; omega
            clear BX1 BZ1
            have BX1 := Lib.hid bx; have BZ1 := Lib.hid bz
            clear bx bz
            clear hbn
            obtain ⟨o00, o01, o02, o03⟩ := BX0.out
            have m0 : p21 < v27.heap.size := BZ0.out
            have m0n : p21 ≠ v27.heap.size := Nat.ne_of_lt BZ0.out
            obtain ⟨o10, o11, o12, o13⟩ := BX1.out
            have m1 : p25 < v27.heap.size := BZ1.out
            have m1n : p25 ≠ v27.heap.size := Nat.ne_of_lt BZ1.out
            try go_wp2
            go_ret
            exact ⟨rfl, HC27.out⟩
        · have hEb : (E == 0) = false := by simpa using hE
          cases gi
          · skip
            go_wp2_with fail
            refine (P2.out _).mono ?_
            rintro e u1 ⟨rfl, hbu⟩
            have HU := Lib.hid (via (FIN.out _ (by assumption)) hbu)
            clear hbu
            go_wp2_with fail
            generalize hal21 : u1.alloc (.cells #[.int .i64 (C), .int .i64 (R), .bool X, .bool Y] 23) = v21
            have hbn := al1 u1 (.cells #[.int .i64 (C), .int .i64 (R), .bool X, .bool Y] 23)
            rw [hal21] at hbn
            have nbx := BoxR.new u1 C R X Y
            rw [hal21] at nbx
            have nbz : u1.heap.size < v21.heap.size := by rw [← hal21]; simp
            have HC21 := Lib.hid (via HU.out hbn)
            clear HU
            obtain ⟨p21, hp21⟩ : ∃ b, u1.heap.size = b := ⟨_, rfl⟩
            rw [hp21] at nbx nbz ⊢
            have BX0 := Lib.hid nbx; have BZ0 := Lib.hid nbz
            clear nbx nbz hp21
            clear hbn hal21
            obtain ⟨o00, o01, o02, o03⟩ := BX0.out
            have m0 : p21 < v21.heap.size := BZ0.out
            have m0n : p21 ≠ v21.heap.size := Nat.ne_of_lt BZ0.out
            refine (A2.out _).mono ?_
            rintro e v22 ⟨rfl, hbn⟩
            clear o00 o01 o02 o03 m0 m0n
            have HC22 := Lib.hid (via HC21.out hbn)
            clear HC21
            have bx := BX0.out.on hbn BZ0.out
            have bz : p21 < v22.heap.size := by have := hbn.size; have := BZ0.out; omega
            clear BX0 BZ0
            have BX0 := Lib.hid bx; have BZ0 := Lib.hid bz
            clear bx bz
            clear hbn
            obtain ⟨o00, o01, o02, o03⟩ := BX0.out
            have m0 : p21 < v22.heap.size := BZ0.out
            have m0n : p21 ≠ v22.heap.size := Nat.ne_of_lt BZ0.out
            go_wp2_with fail
            generalize hal23 : v22.alloc (.cells #[.int .i64 (aC), .int .i64 (aR), .bool false, .bool false] 23) = v23
            have hbn := al1 v22 (.cells #[.int .i64 (aC), .int .i64 (aR), .bool false, .bool false] 23)
            rw [hal23] at hbn
            have nbx := BoxR.new v22 aC aR false false
            rw [hal23] at nbx
            have nbz : v22.heap.size < v23.heap.size := by rw [← hal23]; simp
            clear o00 o01 o02 o03 m0 m0n
            have HC23 := Lib.hid (via HC22.out hbn)
            clear HC22
            have bx := BX0.out.on hbn BZ0.out
            have bz : p21 < v23.heap.size := by have := hbn.size; have := BZ0.out; omega
            clear BX0 BZ0
            have BX0 := Lib.hid bx; have BZ0 := Lib.hid bz
            clear bx bz
            obtain ⟨p23, hp23⟩ : ∃ b, v22.heap.size = b := ⟨_, rfl⟩
            rw [hp23] at nbx nbz ⊢
            have BX1 := Lib.hid nbx; have BZ1 := Lib.hid nbz
            clear nbx nbz hp23
            clear hbn hal23
            obtain ⟨o00, o01, o02, o03⟩ := BX0.out
            have m0 : p21 < v23.heap.size := BZ0.out
            have m0n : p21 ≠ v23.heap.size := Nat.ne_of_lt BZ0.out
            obtain ⟨o10, o11, o12, o13⟩ := BX1.out
            have m1 : p23 < v23.heap.size := BZ1.out
            have m1n : p23 ≠ v23.heap.size := Nat.ne_of_lt BZ1.out
            refine (R3.out _).mono ?_
            rintro e v24 ⟨rfl, hbn⟩
            clear o00 o01 o02 o03 m0 m0n o10 o11 o12 o13 m1 m1n
            have HC24 := Lib.hid (via HC23.out hbn)
            clear HC23
            have bx := BX0.out.on hbn BZ0.out
            have bz : p21 < v24.heap.size := by have := hbn.size; have := BZ0.out; omega
            clear BX0 BZ0
            have BX0 := Lib.hid bx; have BZ0 := Lib.hid bz
            clear bx bz
            have bx := BX1.out.on hbn BZ1.out
            have bz : p23 < v24.heap.size := by have := hbn.size; have := BZ1.out; omega
            clear BX1 BZ1
            have BX1 := Lib.hid bx; have BZ1 := Lib.hid bz
            clear bx bz
            clear hbn
            obtain ⟨o00, o01, o02, o03⟩ := BX0.out
            have m0 : p21 < v24.heap.size := BZ0.out
            have m0n : p21 ≠ v24.heap.size := Nat.ne_of_lt BZ0.out
            obtain ⟨o10, o11, o12, o13⟩ := BX1.out
            have m1 : p23 < v24.heap.size := BZ1.out
            have m1n : p23 ≠ v24.heap.size := Nat.ne_of_lt BZ1.out
            try go_wp2
            go_ret
            exact ⟨rfl, HC24.out⟩
          · skip
            go_wp2_with fail
            refine (P2.out _).mono ?_
            rintro e u1 ⟨rfl, hbu⟩
            have HU := Lib.hid (via (FIN.out _ (by assumption)) hbu)
            clear hbu
            go_wp2_with fail
            generalize hal21 : u1.alloc (.cells #[.int .i64 (C), .int .i64 (R), .bool X, .bool Y] 23) = v21
            have hbn := al1 u1 (.cells #[.int .i64 (C), .int .i64 (R), .bool X, .bool Y] 23)
            rw [hal21] at hbn
            have nbx := BoxR.new u1 C R X Y
            rw [hal21] at nbx
            have nbz : u1.heap.size < v21.heap.size := by rw [← hal21]; simp
            have HC21 := Lib.hid (via HU.out hbn)
            clear HU
            obtain ⟨p21, hp21⟩ : ∃ b, u1.heap.size = b := ⟨_, rfl⟩
            rw [hp21] at nbx nbz ⊢
            have BX0 := Lib.hid nbx; have BZ0 := Lib.hid nbz
            clear nbx nbz hp21
            clear hbn hal21
            obtain ⟨o00, o01, o02, o03⟩ := BX0.out
            have m0 : p21 < v21.heap.size := BZ0.out
            have m0n : p21 ≠ v21.heap.size := Nat.ne_of_lt BZ0.out
            refine (A2.out _).mono ?_
            rintro e v22 ⟨rfl, hbn⟩
            clear o00 o01 o02 o03 m0 m0n
            have HC22 := Lib.hid (via HC21.out hbn)
            clear HC21
            have bx := BX0.out.on hbn BZ0.out
            have bz : p21 < v22.heap.size := by have := hbn.size; have := BZ0.out; omega
            clear BX0 BZ0
            have BX0 := Lib.hid bx; have BZ0 := Lib.hid bz
            clear bx bz
            clear hbn
            obtain ⟨o00, o01, o02, o03⟩ := BX0.out
            have m0 : p21 < v22.heap.size := BZ0.out
            have m0n : p21 ≠ v22.heap.size := Nat.ne_of_lt BZ0.out
            go_wp2_with fail
            generalize hal23 : v22.alloc (.cells #[.int .i64 (aC), .int .i64 (aR), .bool false, .bool false] 23) = v23
            have hbn := al1 v22 (.cells #[.int .i64 (aC), .int .i64 (aR), .bool false, .bool false] 23)
            rw [hal23] at hbn
            have nbx := BoxR.new v22 aC aR false false
            rw [hal23] at nbx
            have nbz : v22.heap.size < v23.heap.size := by rw [← hal23]; simp
            clear o00 o01 o02 o03 m0 m0n
            have HC23 := Lib.hid (via HC22.out hbn)
            clear HC22
            have bx := BX0.out.on hbn BZ0.out
            have bz : p21 < v23.heap.size := by have := hbn.size; have := BZ0.out; omega
            clear BX0 BZ0
            have BX0 := Lib.hid bx; have BZ0 := Lib.hid bz
            clear bx bz
            obtain ⟨p23, hp23⟩ : ∃ b, v22.heap.size = b := ⟨_, rfl⟩
            rw [hp23] at nbx nbz ⊢
            have BX1 := Lib.hid nbx; have BZ1 := Lib.hid nbz
            clear nbx nbz hp23
            clear hbn hal23
            obtain ⟨o00, o01, o02, o03⟩ := BX0.out
            have m0 : p21 < v23.heap.size := BZ0.out
            have m0n : p21 ≠ v23.heap.size := Nat.ne_of_lt BZ0.out
            obtain ⟨o10, o11, o12, o13⟩ := BX1.out
            have m1 : p23 < v23.heap.size := BZ1.out
            have m1n : p23 ≠ v23.heap.size := Nat.ne_of_lt BZ1.out
            refine (R3.out _).mono ?_
            rintro e v24 ⟨rfl, hbn⟩
            clear o00 o01 o02 o03 m0 m0n o10 o11 o12 o13 m1 m1n
            have HC24 := Lib.hid (via HC23.out hbn)
            clear HC23
            have bx := BX0.out.on hbn BZ0.out
            have bz : p21 < v24.heap.size := by have := hbn.size; have := BZ0.out; omega
            clear BX0 BZ0
            have BX0 := Lib.hid bx; have BZ0 := Lib.hid bz
            clear bx bz
            have bx := BX1.out.on hbn BZ1.out
            have bz : p23 < v24.heap.size := by have := hbn.size; have := BZ1.out; omega
            clear BX1 BZ1
            have BX1 := Lib.hid bx; have BZ1 := Lib.hid bz
            clear bx bz
            clear hbn
            obtain ⟨o00, o01, o02, o03⟩ := BX0.out
            have m0 : p21 < v24.heap.size := BZ0.out
            have m0n : p21 ≠ v24.heap.size := Nat.ne_of_lt BZ0.out
            obtain ⟨o10, o11, o12, o13⟩ := BX1.out
            have m1 : p23 < v24.heap.size := BZ1.out
            have m1n : p23 ≠ v24.heap.size := Nat.ne_of_lt BZ1.out
            go_wp2_with fail
            refine (I3.out (by trivial) _).mono ?_
            rintro e v25 ⟨rfl, hbn⟩
            clear o00 o01 o02 o03 m0 m0n o10 o11 o12 o13 m1 m1n
            have HC25 := Lib.hid (via HC24.out hbn)
            clear HC24
            have bx := BX0.out.on hbn BZ0.out
            have bz : p21 < v25.heap.size := by have := hbn.size; have := BZ0.out; omega
            clear BX0 BZ0
            have BX0 := Lib.hid bx; have BZ0 := Lib.hid bz
            clear bx bz
            have bx := BX1.out.on hbn BZ1.out
            have bz : p23 < v25.heap.size := by have := hbn.size; have := BZ1.out; omega
            clear BX1 BZ1
            have BX1 := Lib.hid bx; have BZ1 := Lib.hid bz
            clear bx bz
            clear hbn
            obtain ⟨o00, o01, o02, o03⟩ := BX0.out
            have m0 : p21 < v25.heap.size := BZ0.out
            have m0n : p21 ≠ v25.heap.size := Nat.ne_of_lt BZ0.out
            obtain ⟨o10, o11, o12, o13⟩ := BX1.out
            have m1 : p23 < v25.heap.size := BZ1.out
            have m1n : p23 ≠ v25.heap.size := Nat.ne_of_lt BZ1.out
            try go_wp2
            go_ret
            exact ⟨rfl, HC25.out⟩
    · skip
      rw [Bool.not_eq_true] at g
      have PP := Lib.hid (P1L.out (Value.agg #[Value.int .i64 (0), Value.int .i64 (0), Value.bool false, Value.bool false]) 3 (by rw [ifF g]; rfl))
      rw [g] at R1
      clear g
      clear P1L
      generalize (⟨(prtV c r x y).toArray⟩ : ByteArray) = PS at *
      go_enter Tryd.func6, Tryd.ntmps6
      go_wp2_with fail
      generalize hal1 : w.alloc (.cells #[.int .i64 (c), .int .i64 (r), .bool x, .bool y] 23) = v1
      have hbn := al1 w (.cells #[.int .i64 (c), .int .i64 (r), .bool x, .bool y] 23)
      rw [hal1] at hbn
      have nbx := BoxR.new w c r x y
      rw [hal1] at nbx
      have nbz : w.heap.size < v1.heap.size := by rw [← hal1]; simp
      have HC1 := Lib.hid hbn
      have BX0 := Lib.hid nbx; have BZ0 := Lib.hid nbz
      clear nbx nbz
      clear hbn hal1
      refine (shown_any _ (HT.out.below HC1.out)).mono ?_
      rintro e v2 ⟨rfl, hbn⟩
      have HC2 := Lib.hid (via HC1.out hbn)
      clear HC1
      have bx := BX0.out.on hbn BZ0.out
      have bz : w.heap.size < v2.heap.size := by have := hbn.size; have := BZ0.out; omega
      clear BX0 BZ0
      have BX0 := Lib.hid bx; have BZ0 := Lib.hid bz
      clear bx bz
      clear hbn
      obtain ⟨o00, o01, o02, o03⟩ := BX0.out
      have m0 : w.heap.size < v2.heap.size := BZ0.out
      have m0n : w.heap.size ≠ v2.heap.size := Nat.ne_of_lt BZ0.out
      go_wp2_with fail
      refine (R1.out _).mono ?_
      rintro e v3 ⟨rfl, hbn⟩
      clear o00 o01 o02 o03 m0 m0n
      have HC3 := Lib.hid (via HC2.out hbn)
      clear HC2
      have bx := BX0.out.on hbn BZ0.out
      have bz : w.heap.size < v3.heap.size := by have := hbn.size; have := BZ0.out; omega
      clear BX0 BZ0
      have BX0 := Lib.hid bx; have BZ0 := Lib.hid bz
      clear bx bz
      clear hbn
      obtain ⟨o00, o01, o02, o03⟩ := BX0.out
      have m0 : w.heap.size < v3.heap.size := BZ0.out
      have m0n : w.heap.size ≠ v3.heap.size := Nat.ne_of_lt BZ0.out
      go_wp2_with fail
      refine (Q1.out _ (HT.out.below HC3.out)).mono ?_
      rintro e v4 ⟨rfl, hbn⟩
      clear o00 o01 o02 o03 m0 m0n
      have HC4 := Lib.hid (via HC3.out hbn)
      clear HC3
      have bx := BX0.out.on hbn BZ0.out
      have bz : w.heap.size < v4.heap.size := by have := hbn.size; have := BZ0.out; omega
      clear BX0 BZ0
      have BX0 := Lib.hid bx; have BZ0 := Lib.hid bz
      clear bx bz
      clear hbn
      obtain ⟨o00, o01, o02, o03⟩ := BX0.out
      have m0 : w.heap.size < v4.heap.size := BZ0.out
      have m0n : w.heap.size ≠ v4.heap.size := Nat.ne_of_lt BZ0.out
      go_wp2_with fail
      refine (PP.out _).mono ?_
      rintro e v5 ⟨rfl, hbn⟩
      clear o00 o01 o02 o03 m0 m0n
      have HC5 := Lib.hid (via HC4.out hbn)
      clear HC4
      have bx := BX0.out.on hbn BZ0.out
      have bz : w.heap.size < v5.heap.size := by have := hbn.size; have := BZ0.out; omega
      clear BX0 BZ0
      have BX0 := Lib.hid bx; have BZ0 := Lib.hid bz
      clear bx bz
      clear hbn
      obtain ⟨o00, o01, o02, o03⟩ := BX0.out
      have m0 : w.heap.size < v5.heap.size := BZ0.out
      have m0n : w.heap.size ≠ v5.heap.size := Nat.ne_of_lt BZ0.out
      go_wp2_with fail
      generalize hal6 : v5.alloc (.cells #[.int .i64 (0), .int .i64 (0), .bool false, .bool false] 23) = v6
      have hbn := al1 v5 (.cells #[.int .i64 (0), .int .i64 (0), .bool false, .bool false] 23)
      rw [hal6] at hbn
      have nbx := BoxR.new v5 0 0 false false
      rw [hal6] at nbx
      have nbz : v5.heap.size < v6.heap.size := by rw [← hal6]; simp
      clear o00 o01 o02 o03 m0 m0n
      have HC6 := Lib.hid (via HC5.out hbn)
      clear HC5
      have bx := BX0.out.on hbn BZ0.out
      have bz : w.heap.size < v6.heap.size := by have := hbn.size; have := BZ0.out; omega
      clear BX0 BZ0
      have BX0 := Lib.hid bx; have BZ0 := Lib.hid bz
      clear bx bz
      obtain ⟨p6, hp6⟩ : ∃ b, v5.heap.size = b := ⟨_, rfl⟩
      rw [hp6] at nbx nbz ⊢
      have BX1 := Lib.hid nbx; have BZ1 := Lib.hid nbz
      clear nbx nbz hp6
      clear hbn hal6
      obtain ⟨o00, o01, o02, o03⟩ := BX0.out
      have m0 : w.heap.size < v6.heap.size := BZ0.out
      have m0n : w.heap.size ≠ v6.heap.size := Nat.ne_of_lt BZ0.out
      obtain ⟨o10, o11, o12, o13⟩ := BX1.out
      have m1 : p6 < v6.heap.size := BZ1.out
      have m1n : p6 ≠ v6.heap.size := Nat.ne_of_lt BZ1.out
      have keepS : ∀ A Z : World, ((A.cell? ⟨w.heap.size, 0, none⟩ = some (.int .i64 c) ∧ A.cell? ⟨w.heap.size, 1, none⟩ = some (.int .i64 r) ∧ A.cell? ⟨w.heap.size, 2, none⟩ = some (.bool x) ∧ A.cell? ⟨w.heap.size, 3, none⟩ = some (.bool y) ∧ A.cell? ⟨p6, 0, none⟩ = some (.int .i64 0) ∧ A.cell? ⟨p6, 1, none⟩ = some (.int .i64 0) ∧ A.cell? ⟨p6, 2, none⟩ = some (.bool false) ∧ A.cell? ⟨p6, 3, none⟩ = some (.bool false)) ∧ ((w.heap.size < A.heap.size ∧ p6 < A.heap.size) ∧ Below w.heap.size w A)) → Below A.heap.size A Z → ((Z.cell? ⟨w.heap.size, 0, none⟩ = some (.int .i64 c) ∧ Z.cell? ⟨w.heap.size, 1, none⟩ = some (.int .i64 r) ∧ Z.cell? ⟨w.heap.size, 2, none⟩ = some (.bool x) ∧ Z.cell? ⟨w.heap.size, 3, none⟩ = some (.bool y) ∧ Z.cell? ⟨p6, 0, none⟩ = some (.int .i64 0) ∧ Z.cell? ⟨p6, 1, none⟩ = some (.int .i64 0) ∧ Z.cell? ⟨p6, 2, none⟩ = some (.bool false) ∧ Z.cell? ⟨p6, 3, none⟩ = some (.bool false)) ∧ ((w.heap.size < Z.heap.size ∧ p6 < Z.heap.size) ∧ Below w.heap.size w Z)) := by
        rintro A Z ⟨hc, ⟨l0, l1⟩, hb⟩ hx
        have hz := hx.size
        refine ⟨?_, ⟨by omega, by omega⟩, via hb hx⟩
        simp only [hx.cell (p := ⟨w.heap.size, _, none⟩) l0, hx.cell (p := ⟨p6, _, none⟩) l1]
        exact hc
      have KS := Lib.hid keepS
      clear keepS
      have FIN := Lib.hid (fun (W : World) (h : (W.cell? ⟨w.heap.size, 0, none⟩ = some (.int .i64 c) ∧ W.cell? ⟨w.heap.size, 1, none⟩ = some (.int .i64 r) ∧ W.cell? ⟨w.heap.size, 2, none⟩ = some (.bool x) ∧ W.cell? ⟨w.heap.size, 3, none⟩ = some (.bool y) ∧ W.cell? ⟨p6, 0, none⟩ = some (.int .i64 0) ∧ W.cell? ⟨p6, 1, none⟩ = some (.int .i64 0) ∧ W.cell? ⟨p6, 2, none⟩ = some (.bool false) ∧ W.cell? ⟨p6, 3, none⟩ = some (.bool false)) ∧ ((w.heap.size < W.heap.size ∧ p6 < W.heap.size) ∧ Below w.heap.size w W)) => h.2.2)
      have ST : (v6.cell? ⟨w.heap.size, 0, none⟩ = some (.int .i64 c) ∧ v6.cell? ⟨w.heap.size, 1, none⟩ = some (.int .i64 r) ∧ v6.cell? ⟨w.heap.size, 2, none⟩ = some (.bool x) ∧ v6.cell? ⟨w.heap.size, 3, none⟩ = some (.bool y) ∧ v6.cell? ⟨p6, 0, none⟩ = some (.int .i64 0) ∧ v6.cell? ⟨p6, 1, none⟩ = some (.int .i64 0) ∧ v6.cell? ⟨p6, 2, none⟩ = some (.bool false) ∧ v6.cell? ⟨p6, 3, none⟩ = some (.bool false)) ∧ ((w.heap.size < v6.heap.size ∧ p6 < v6.heap.size) ∧ Below w.heap.size w v6) := ⟨⟨o00, o01, o02, o03, o10, o11, o12, o13⟩, ⟨m0, m1⟩, HC6.out⟩
      have ST := Lib.hid ST
      clear o00 o01 o02 o03 m0 m0n o10 o11 o12 o13 m1 m1n
      go_wp2
      go_quiet (fail)
      all_goals
        by_cases hE : E = 0
        · have hEb : (E == 0) = true := by simpa using hE
          rw [PQ.out hE] at Q3
          generalize (⟨(s.data.toList.map capB).toArray⟩ : ByteArray) = CS at *
          cases gi
          · skip
            go_wp2_with fail
            refine (P2.out _).mono ?_
            rintro e u1 ⟨rfl, hbu⟩
            have HU := Lib.hid (via (belowDN ST.out.2.2 _) hbu)
            clear hbu
            go_wp2_with fail
            generalize hal21 : u1.alloc (.cells #[.int .i64 (C), .int .i64 (R), .bool X, .bool Y] 23) = v21
            have hbn := al1 u1 (.cells #[.int .i64 (C), .int .i64 (R), .bool X, .bool Y] 23)
            rw [hal21] at hbn
            have nbx := BoxR.new u1 C R X Y
            rw [hal21] at nbx
            have nbz : u1.heap.size < v21.heap.size := by rw [← hal21]; simp
            have HC21 := Lib.hid (via HU.out hbn)
            clear HU
            obtain ⟨p21, hp21⟩ : ∃ b, u1.heap.size = b := ⟨_, rfl⟩
            rw [hp21] at nbx nbz ⊢
            have BX0 := Lib.hid nbx; have BZ0 := Lib.hid nbz
            clear nbx nbz hp21
            clear hbn hal21
            obtain ⟨o00, o01, o02, o03⟩ := BX0.out
            have m0 : p21 < v21.heap.size := BZ0.out
            have m0n : p21 ≠ v21.heap.size := Nat.ne_of_lt BZ0.out
            refine (Q3.out _ (HT.out.below HC21.out)).mono ?_
            rintro e v22 ⟨rfl, hbn⟩
            clear o00 o01 o02 o03 m0 m0n
            have HC22 := Lib.hid (via HC21.out hbn)
            clear HC21
            have bx := BX0.out.on hbn BZ0.out
            have bz : p21 < v22.heap.size := by have := hbn.size; have := BZ0.out; omega
            clear BX0 BZ0
            have BX0 := Lib.hid bx; have BZ0 := Lib.hid bz
            clear bx bz
            clear hbn
            obtain ⟨o00, o01, o02, o03⟩ := BX0.out
            have m0 : p21 < v22.heap.size := BZ0.out
            have m0n : p21 ≠ v22.heap.size := Nat.ne_of_lt BZ0.out
            go_wp2_with fail
            refine (CP.out _).mono ?_
            rintro e v23 ⟨rfl, hbn⟩
            clear o00 o01 o02 o03 m0 m0n
            have HC23 := Lib.hid (via HC22.out hbn)
            clear HC22
            have bx := BX0.out.on hbn BZ0.out
            have bz : p21 < v23.heap.size := by have := hbn.size; have := BZ0.out; omega
            clear BX0 BZ0
            have BX0 := Lib.hid bx; have BZ0 := Lib.hid bz
            clear bx bz
            clear hbn
            obtain ⟨o00, o01, o02, o03⟩ := BX0.out
            have m0 : p21 < v23.heap.size := BZ0.out
            have m0n : p21 ≠ v23.heap.size := Nat.ne_of_lt BZ0.out
            go_wp2_with fail
            refine (A2.out _).mono ?_
            rintro e v24 ⟨rfl, hbn⟩
            clear o00 o01 o02 o03 m0 m0n
            have HC24 := Lib.hid (via HC23.out hbn)
            clear HC23
            have bx := BX0.out.on hbn BZ0.out
            have bz : p21 < v24.heap.size := by have := hbn.size; have := BZ0.out; omega
            clear BX0 BZ0
            have BX0 := Lib.hid bx; have BZ0 := Lib.hid bz
            clear bx bz
            clear hbn
            obtain ⟨o00, o01, o02, o03⟩ := BX0.out
            have m0 : p21 < v24.heap.size := BZ0.out
            have m0n : p21 ≠ v24.heap.size := Nat.ne_of_lt BZ0.out
            go_wp2_with fail
            generalize hal25 : v24.alloc (.cells #[.int .i64 (aC), .int .i64 (aR), .bool false, .bool false] 23) = v25
            have hbn := al1 v24 (.cells #[.int .i64 (aC), .int .i64 (aR), .bool false, .bool false] 23)
            rw [hal25] at hbn
            have nbx := BoxR.new v24 aC aR false false
            rw [hal25] at nbx
            have nbz : v24.heap.size < v25.heap.size := by rw [← hal25]; simp
            clear o00 o01 o02 o03 m0 m0n
            have HC25 := Lib.hid (via HC24.out hbn)
            clear HC24
            have bx := BX0.out.on hbn BZ0.out
            have bz : p21 < v25.heap.size := by have := hbn.size; have := BZ0.out; omega
            clear BX0 BZ0
            have BX0 := Lib.hid bx; have BZ0 := Lib.hid bz
            clear bx bz
            obtain ⟨p25, hp25⟩ : ∃ b, v24.heap.size = b := ⟨_, rfl⟩
            rw [hp25] at nbx nbz ⊢
            have BX1 := Lib.hid nbx; have BZ1 := Lib.hid nbz
            clear nbx nbz hp25
            clear hbn hal25
            obtain ⟨o00, o01, o02, o03⟩ := BX0.out
            have m0 : p21 < v25.heap.size := BZ0.out
            have m0n : p21 ≠ v25.heap.size := Nat.ne_of_lt BZ0.out
            obtain ⟨o10, o11, o12, o13⟩ := BX1.out
            have m1 : p25 < v25.heap.size := BZ1.out
            have m1n : p25 ≠ v25.heap.size := Nat.ne_of_lt BZ1.out
            refine (R3.out _).mono ?_
            rintro e v26 ⟨rfl, hbn⟩
            clear o00 o01 o02 o03 m0 m0n o10 o11 o12 o13 m1 m1n
            have HC26 := Lib.hid (via HC25.out hbn)
            clear HC25
            have bx := BX0.out.on hbn BZ0.out
            have bz : p21 < v26.heap.size := by have := hbn.size; have := BZ0.out; omega
            clear BX0 BZ0
            have BX0 := Lib.hid bx; have BZ0 := Lib.hid bz
            clear bx bz
            have bx := BX1.out.on hbn BZ1.out
            have bz : p25 < v26.heap.size := by have := hbn.size; have := BZ1.out; omega
            clear BX1 BZ1
            have BX1 := Lib.hid bx; have BZ1 := Lib.hid bz
            clear bx bz
            clear hbn
            obtain ⟨o00, o01, o02, o03⟩ := BX0.out
            have m0 : p21 < v26.heap.size := BZ0.out
            have m0n : p21 ≠ v26.heap.size := Nat.ne_of_lt BZ0.out
            obtain ⟨o10, o11, o12, o13⟩ := BX1.out
            have m1 : p25 < v26.heap.size := BZ1.out
            have m1n : p25 ≠ v26.heap.size := Nat.ne_of_lt BZ1.out
            try go_wp2
            go_ret
            exact ⟨rfl, HC26.out⟩
          · skip
            go_wp2_with fail
            refine (P2.out _).mono ?_
            rintro e u1 ⟨rfl, hbu⟩
            have HU := Lib.hid (via (belowDN ST.out.2.2 _) hbu)
            clear hbu
            go_wp2_with fail
            generalize hal21 : u1.alloc (.cells #[.int .i64 (C), .int .i64 (R), .bool X, .bool Y] 23) = v21
            have hbn := al1 u1 (.cells #[.int .i64 (C), .int .i64 (R), .bool X, .bool Y] 23)
            rw [hal21] at hbn
            have nbx := BoxR.new u1 C R X Y
            rw [hal21] at nbx
            have nbz : u1.heap.size < v21.heap.size := by rw [← hal21]; simp
            have HC21 := Lib.hid (via HU.out hbn)
            clear HU
            obtain ⟨p21, hp21⟩ : ∃ b, u1.heap.size = b := ⟨_, rfl⟩
            rw [hp21] at nbx nbz ⊢
            have BX0 := Lib.hid nbx; have BZ0 := Lib.hid nbz
            clear nbx nbz hp21
            clear hbn hal21
            obtain ⟨o00, o01, o02, o03⟩ := BX0.out
            have m0 : p21 < v21.heap.size := BZ0.out
            have m0n : p21 ≠ v21.heap.size := Nat.ne_of_lt BZ0.out
            refine (Q3.out _ (HT.out.below HC21.out)).mono ?_
            rintro e v22 ⟨rfl, hbn⟩
            clear o00 o01 o02 o03 m0 m0n
            have HC22 := Lib.hid (via HC21.out hbn)
            clear HC21
            have bx := BX0.out.on hbn BZ0.out
            have bz : p21 < v22.heap.size := by have := hbn.size; have := BZ0.out; omega
            clear BX0 BZ0
            have BX0 := Lib.hid bx; have BZ0 := Lib.hid bz
            clear bx bz
            clear hbn
            obtain ⟨o00, o01, o02, o03⟩ := BX0.out
            have m0 : p21 < v22.heap.size := BZ0.out
            have m0n : p21 ≠ v22.heap.size := Nat.ne_of_lt BZ0.out
            go_wp2_with fail
            refine (CP.out _).mono ?_
            rintro e v23 ⟨rfl, hbn⟩
            clear o00 o01 o02 o03 m0 m0n
            have HC23 := Lib.hid (via HC22.out hbn)
            clear HC22
            have bx := BX0.out.on hbn BZ0.out
            have bz : p21 < v23.heap.size := by have := hbn.size; have := BZ0.out; omega
            clear BX0 BZ0
            have BX0 := Lib.hid bx; have BZ0 := Lib.hid bz
            clear bx bz
            clear hbn
            obtain ⟨o00, o01, o02, o03⟩ := BX0.out
            have m0 : p21 < v23.heap.size := BZ0.out
            have m0n : p21 ≠ v23.heap.size := Nat.ne_of_lt BZ0.out
            go_wp2_with fail
            refine (A2.out _).mono ?_
            rintro e v24 ⟨rfl, hbn⟩
            clear o00 o01 o02 o03 m0 m0n
            have HC24 := Lib.hid (via HC23.out hbn)
            clear HC23
            have bx := BX0.out.on hbn BZ0.out
            have bz : p21 < v24.heap.size := by have := hbn.size; have := BZ0.out; omega
            clear BX0 BZ0
            have BX0 := Lib.hid bx; have BZ0 := Lib.hid bz
            clear bx bz
            clear hbn
            obtain ⟨o00, o01, o02, o03⟩ := BX0.out
            have m0 : p21 < v24.heap.size := BZ0.out
            have m0n : p21 ≠ v24.heap.size := Nat.ne_of_lt BZ0.out
            go_wp2_with fail
            generalize hal25 : v24.alloc (.cells #[.int .i64 (aC), .int .i64 (aR), .bool false, .bool false] 23) = v25
            have hbn := al1 v24 (.cells #[.int .i64 (aC), .int .i64 (aR), .bool false, .bool false] 23)
            rw [hal25] at hbn
            have nbx := BoxR.new v24 aC aR false false
            rw [hal25] at nbx
            have nbz : v24.heap.size < v25.heap.size := by rw [← hal25]; simp
            clear o00 o01 o02 o03 m0 m0n
            have HC25 := Lib.hid (via HC24.out hbn)
            clear HC24
            have bx := BX0.out.on hbn BZ0.out
            have bz : p21 < v25.heap.size := by have := hbn.size; have := BZ0.out; omega
            clear BX0 BZ0
            have BX0 := Lib.hid bx; have BZ0 := Lib.hid bz
            clear bx bz
            obtain ⟨p25, hp25⟩ : ∃ b, v24.heap.size = b := ⟨_, rfl⟩
            rw [hp25] at nbx nbz ⊢
            have BX1 := Lib.hid nbx; have BZ1 := Lib.hid nbz
            clear nbx nbz hp25
            clear hbn hal25
            obtain ⟨o00, o01, o02, o03⟩ := BX0.out
            have m0 : p21 < v25.heap.size := BZ0.out
            have m0n : p21 ≠ v25.heap.size := Nat.ne_of_lt BZ0.out
            obtain ⟨o10, o11, o12, o13⟩ := BX1.out
            have m1 : p25 < v25.heap.size := BZ1.out
            have m1n : p25 ≠ v25.heap.size := Nat.ne_of_lt BZ1.out
            refine (R3.out _).mono ?_
            rintro e v26 ⟨rfl, hbn⟩
            clear o00 o01 o02 o03 m0 m0n o10 o11 o12 o13 m1 m1n
            have HC26 := Lib.hid (via HC25.out hbn)
            clear HC25
            have bx := BX0.out.on hbn BZ0.out
            have bz : p21 < v26.heap.size := by have := hbn.size; have := BZ0.out; omega
            clear BX0 BZ0
            have BX0 := Lib.hid bx; have BZ0 := Lib.hid bz
            clear bx bz
            have bx := BX1.out.on hbn BZ1.out
            have bz : p25 < v26.heap.size := by have := hbn.size; have := BZ1.out; omega
            clear BX1 BZ1
            have BX1 := Lib.hid bx; have BZ1 := Lib.hid bz
            clear bx bz
            clear hbn
            obtain ⟨o00, o01, o02, o03⟩ := BX0.out
            have m0 : p21 < v26.heap.size := BZ0.out
            have m0n : p21 ≠ v26.heap.size := Nat.ne_of_lt BZ0.out
            obtain ⟨o10, o11, o12, o13⟩ := BX1.out
            have m1 : p25 < v26.heap.size := BZ1.out
            have m1n : p25 ≠ v26.heap.size := Nat.ne_of_lt BZ1.out
            go_wp2_with fail
            refine (I3.out (by trivial) _).mono ?_
            rintro e v27 ⟨rfl, hbn⟩
            clear o00 o01 o02 o03 m0 m0n o10 o11 o12 o13 m1 m1n
            have HC27 := Lib.hid (via HC26.out hbn)
            clear HC26
            have bx := BX0.out.on hbn BZ0.out
            have bz : p21 < v27.heap.size := by have := hbn.size; have := BZ0.out; omega
            clear BX0 BZ0
            have BX0 := Lib.hid bx; have BZ0 := Lib.hid bz
            clear bx bz
            have bx := BX1.out.on hbn BZ1.out
            have bz : p25 < v27.heap.size := by have := hbn.size; have := BZ1.out; omega
            clear BX1 BZ1
            have BX1 := Lib.hid bx; have BZ1 := Lib.hid bz
            clear bx bz
            clear hbn
            obtain ⟨o00, o01, o02, o03⟩ := BX0.out
            have m0 : p21 < v27.heap.size := BZ0.out
            have m0n : p21 ≠ v27.heap.size := Nat.ne_of_lt BZ0.out
            obtain ⟨o10, o11, o12, o13⟩ := BX1.out
            have m1 : p25 < v27.heap.size := BZ1.out
            have m1n : p25 ≠ v27.heap.size := Nat.ne_of_lt BZ1.out
            try go_wp2
            go_ret
            exact ⟨rfl, HC27.out⟩
        · have hEb : (E == 0) = false := by simpa using hE
          cases gi
          · skip
            go_wp2_with fail
            refine (P2.out _).mono ?_
            rintro e u1 ⟨rfl, hbu⟩
            have HU := Lib.hid (via (belowDN ST.out.2.2 _) hbu)
            clear hbu
            go_wp2_with fail
            generalize hal21 : u1.alloc (.cells #[.int .i64 (C), .int .i64 (R), .bool X, .bool Y] 23) = v21
            have hbn := al1 u1 (.cells #[.int .i64 (C), .int .i64 (R), .bool X, .bool Y] 23)
            rw [hal21] at hbn
            have nbx := BoxR.new u1 C R X Y
            rw [hal21] at nbx
            have nbz : u1.heap.size < v21.heap.size := by rw [← hal21]; simp
            have HC21 := Lib.hid (via HU.out hbn)
            clear HU
            obtain ⟨p21, hp21⟩ : ∃ b, u1.heap.size = b := ⟨_, rfl⟩
            rw [hp21] at nbx nbz ⊢
            have BX0 := Lib.hid nbx; have BZ0 := Lib.hid nbz
            clear nbx nbz hp21
            clear hbn hal21
            obtain ⟨o00, o01, o02, o03⟩ := BX0.out
            have m0 : p21 < v21.heap.size := BZ0.out
            have m0n : p21 ≠ v21.heap.size := Nat.ne_of_lt BZ0.out
            refine (A2.out _).mono ?_
            rintro e v22 ⟨rfl, hbn⟩
            clear o00 o01 o02 o03 m0 m0n
            have HC22 := Lib.hid (via HC21.out hbn)
            clear HC21
            have bx := BX0.out.on hbn BZ0.out
            have bz : p21 < v22.heap.size := by have := hbn.size; have := BZ0.out; omega
            clear BX0 BZ0
            have BX0 := Lib.hid bx; have BZ0 := Lib.hid bz
            clear bx bz
            clear hbn
            obtain ⟨o00, o01, o02, o03⟩ := BX0.out
            have m0 : p21 < v22.heap.size := BZ0.out
            have m0n : p21 ≠ v22.heap.size := Nat.ne_of_lt BZ0.out
            go_wp2_with fail
            generalize hal23 : v22.alloc (.cells #[.int .i64 (aC), .int .i64 (aR), .bool false, .bool false] 23) = v23
            have hbn := al1 v22 (.cells #[.int .i64 (aC), .int .i64 (aR), .bool false, .bool false] 23)
            rw [hal23] at hbn
            have nbx := BoxR.new v22 aC aR false false
            rw [hal23] at nbx
            have nbz : v22.heap.size < v23.heap.size := by rw [← hal23]; simp
            clear o00 o01 o02 o03 m0 m0n
            have HC23 := Lib.hid (via HC22.out hbn)
            clear HC22
            have bx := BX0.out.on hbn BZ0.out
            have bz : p21 < v23.heap.size := by have := hbn.size; have := BZ0.out; omega
            clear BX0 BZ0
            have BX0 := Lib.hid bx; have BZ0 := Lib.hid bz
            clear bx bz
            obtain ⟨p23, hp23⟩ : ∃ b, v22.heap.size = b := ⟨_, rfl⟩
            rw [hp23] at nbx nbz ⊢
            have BX1 := Lib.hid nbx; have BZ1 := Lib.hid nbz
            clear nbx nbz hp23
            clear hbn hal23
            obtain ⟨o00, o01, o02, o03⟩ := BX0.out
            have m0 : p21 < v23.heap.size := BZ0.out
            have m0n : p21 ≠ v23.heap.size := Nat.ne_of_lt BZ0.out
            obtain ⟨o10, o11, o12, o13⟩ := BX1.out
            have m1 : p23 < v23.heap.size := BZ1.out
            have m1n : p23 ≠ v23.heap.size := Nat.ne_of_lt BZ1.out
            refine (R3.out _).mono ?_
            rintro e v24 ⟨rfl, hbn⟩
            clear o00 o01 o02 o03 m0 m0n o10 o11 o12 o13 m1 m1n
            have HC24 := Lib.hid (via HC23.out hbn)
            clear HC23
            have bx := BX0.out.on hbn BZ0.out
            have bz : p21 < v24.heap.size := by have := hbn.size; have := BZ0.out; omega
            clear BX0 BZ0
            have BX0 := Lib.hid bx; have BZ0 := Lib.hid bz
            clear bx bz
            have bx := BX1.out.on hbn BZ1.out
            have bz : p23 < v24.heap.size := by have := hbn.size; have := BZ1.out; omega
            clear BX1 BZ1
            have BX1 := Lib.hid bx; have BZ1 := Lib.hid bz
            clear bx bz
            clear hbn
            obtain ⟨o00, o01, o02, o03⟩ := BX0.out
            have m0 : p21 < v24.heap.size := BZ0.out
            have m0n : p21 ≠ v24.heap.size := Nat.ne_of_lt BZ0.out
            obtain ⟨o10, o11, o12, o13⟩ := BX1.out
            have m1 : p23 < v24.heap.size := BZ1.out
            have m1n : p23 ≠ v24.heap.size := Nat.ne_of_lt BZ1.out
            try go_wp2
            go_ret
            exact ⟨rfl, HC24.out⟩
          · skip
            go_wp2_with fail
            refine (P2.out _).mono ?_
            rintro e u1 ⟨rfl, hbu⟩
            have HU := Lib.hid (via (belowDN ST.out.2.2 _) hbu)
            clear hbu
            go_wp2_with fail
            generalize hal21 : u1.alloc (.cells #[.int .i64 (C), .int .i64 (R), .bool X, .bool Y] 23) = v21
            have hbn := al1 u1 (.cells #[.int .i64 (C), .int .i64 (R), .bool X, .bool Y] 23)
            rw [hal21] at hbn
            have nbx := BoxR.new u1 C R X Y
            rw [hal21] at nbx
            have nbz : u1.heap.size < v21.heap.size := by rw [← hal21]; simp
            have HC21 := Lib.hid (via HU.out hbn)
            clear HU
            obtain ⟨p21, hp21⟩ : ∃ b, u1.heap.size = b := ⟨_, rfl⟩
            rw [hp21] at nbx nbz ⊢
            have BX0 := Lib.hid nbx; have BZ0 := Lib.hid nbz
            clear nbx nbz hp21
            clear hbn hal21
            obtain ⟨o00, o01, o02, o03⟩ := BX0.out
            have m0 : p21 < v21.heap.size := BZ0.out
            have m0n : p21 ≠ v21.heap.size := Nat.ne_of_lt BZ0.out
            refine (A2.out _).mono ?_
            rintro e v22 ⟨rfl, hbn⟩
            clear o00 o01 o02 o03 m0 m0n
            have HC22 := Lib.hid (via HC21.out hbn)
            clear HC21
            have bx := BX0.out.on hbn BZ0.out
            have bz : p21 < v22.heap.size := by have := hbn.size; have := BZ0.out; omega
            clear BX0 BZ0
            have BX0 := Lib.hid bx; have BZ0 := Lib.hid bz
            clear bx bz
            clear hbn
            obtain ⟨o00, o01, o02, o03⟩ := BX0.out
            have m0 : p21 < v22.heap.size := BZ0.out
            have m0n : p21 ≠ v22.heap.size := Nat.ne_of_lt BZ0.out
            go_wp2_with fail
            generalize hal23 : v22.alloc (.cells #[.int .i64 (aC), .int .i64 (aR), .bool false, .bool false] 23) = v23
            have hbn := al1 v22 (.cells #[.int .i64 (aC), .int .i64 (aR), .bool false, .bool false] 23)
            rw [hal23] at hbn
            have nbx := BoxR.new v22 aC aR false false
            rw [hal23] at nbx
            have nbz : v22.heap.size < v23.heap.size := by rw [← hal23]; simp
            clear o00 o01 o02 o03 m0 m0n
            have HC23 := Lib.hid (via HC22.out hbn)
            clear HC22
            have bx := BX0.out.on hbn BZ0.out
            have bz : p21 < v23.heap.size := by have := hbn.size; have := BZ0.out; omega
            clear BX0 BZ0
            have BX0 := Lib.hid bx; have BZ0 := Lib.hid bz
            clear bx bz
            obtain ⟨p23, hp23⟩ : ∃ b, v22.heap.size = b := ⟨_, rfl⟩
            rw [hp23] at nbx nbz ⊢
            have BX1 := Lib.hid nbx; have BZ1 := Lib.hid nbz
            clear nbx nbz hp23
            clear hbn hal23
            obtain ⟨o00, o01, o02, o03⟩ := BX0.out
            have m0 : p21 < v23.heap.size := BZ0.out
            have m0n : p21 ≠ v23.heap.size := Nat.ne_of_lt BZ0.out
            obtain ⟨o10, o11, o12, o13⟩ := BX1.out
            have m1 : p23 < v23.heap.size := BZ1.out
            have m1n : p23 ≠ v23.heap.size := Nat.ne_of_lt BZ1.out
            refine (R3.out _).mono ?_
            rintro e v24 ⟨rfl, hbn⟩
            clear o00 o01 o02 o03 m0 m0n o10 o11 o12 o13 m1 m1n
            have HC24 := Lib.hid (via HC23.out hbn)
            clear HC23
            have bx := BX0.out.on hbn BZ0.out
            have bz : p21 < v24.heap.size := by have := hbn.size; have := BZ0.out; omega
            clear BX0 BZ0
            have BX0 := Lib.hid bx; have BZ0 := Lib.hid bz
            clear bx bz
            have bx := BX1.out.on hbn BZ1.out
            have bz : p23 < v24.heap.size := by have := hbn.size; have := BZ1.out; omega
            clear BX1 BZ1
            have BX1 := Lib.hid bx; have BZ1 := Lib.hid bz
            clear bx bz
            clear hbn
            obtain ⟨o00, o01, o02, o03⟩ := BX0.out
            have m0 : p21 < v24.heap.size := BZ0.out
            have m0n : p21 ≠ v24.heap.size := Nat.ne_of_lt BZ0.out
            obtain ⟨o10, o11, o12, o13⟩ := BX1.out
            have m1 : p23 < v24.heap.size := BZ1.out
            have m1n : p23 ≠ v24.heap.size := Nat.ne_of_lt BZ1.out
            go_wp2_with fail
            refine (I3.out (by trivial) _).mono ?_
            rintro e v25 ⟨rfl, hbn⟩
            clear o00 o01 o02 o03 m0 m0n o10 o11 o12 o13 m1 m1n
            have HC25 := Lib.hid (via HC24.out hbn)
            clear HC24
            have bx := BX0.out.on hbn BZ0.out
            have bz : p21 < v25.heap.size := by have := hbn.size; have := BZ0.out; omega
            clear BX0 BZ0
            have BX0 := Lib.hid bx; have BZ0 := Lib.hid bz
            clear bx bz
            have bx := BX1.out.on hbn BZ1.out
            have bz : p23 < v25.heap.size := by have := hbn.size; have := BZ1.out; omega
            clear BX1 BZ1
            have BX1 := Lib.hid bx; have BZ1 := Lib.hid bz
            clear bx bz
            clear hbn
            obtain ⟨o00, o01, o02, o03⟩ := BX0.out
            have m0 : p21 < v25.heap.size := BZ0.out
            have m0n : p21 ≠ v25.heap.size := Nat.ne_of_lt BZ0.out
            obtain ⟨o10, o11, o12, o13⟩ := BX1.out
            have m1 : p23 < v25.heap.size := BZ1.out
            have m1n : p23 ≠ v25.heap.size := Nat.ne_of_lt BZ1.out
            try go_wp2
            go_ret
            exact ⟨rfl, HC25.out⟩
  · have hs' : (1000 : Int) < (s.size : Int) := by omega
    clear hs
    go_enter Tryd.func6, Tryd.ntmps6
    go_wp2_with fail
    generalize hal1 : w.alloc (.cells #[.int .i64 (c), .int .i64 (r), .bool x, .bool y] 23) = v1
    have hbn := al1 w (.cells #[.int .i64 (c), .int .i64 (r), .bool x, .bool y] 23)
    rw [hal1] at hbn
    have nbx := BoxR.new w c r x y
    rw [hal1] at nbx
    have nbz : w.heap.size < v1.heap.size := by rw [← hal1]; simp
    have HC1 := Lib.hid hbn
    have BX0 := Lib.hid nbx; have BZ0 := Lib.hid nbz
    clear nbx nbz
    clear hbn hal1
    refine (shown_any _ (HT.out.below HC1.out)).mono ?_
    rintro e v2 ⟨rfl, hbn⟩
    have HC2 := Lib.hid (via HC1.out hbn)
    clear HC1
    have bx := BX0.out.on hbn BZ0.out
    have bz : w.heap.size < v2.heap.size := by have := hbn.size; have := BZ0.out; omega
    clear BX0 BZ0
    have BX0 := Lib.hid bx; have BZ0 := Lib.hid bz
    clear bx bz
    clear hbn
    obtain ⟨o00, o01, o02, o03⟩ := BX0.out
    have m0 : w.heap.size < v2.heap.size := BZ0.out
    have m0n : w.heap.size ≠ v2.heap.size := Nat.ne_of_lt BZ0.out
    try go_wp2
    go_ret
    exact ⟨rfl, HC2.out⟩
end Go.Proofs.YtikcggbkkgipoaaDoor
