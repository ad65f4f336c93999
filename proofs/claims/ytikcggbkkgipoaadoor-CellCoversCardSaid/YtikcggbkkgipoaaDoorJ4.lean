/-
  CellAreas: walked.
-/
import Derived.Test.YtikcggbkkgipoaaDoorJ3
namespace Go.Proofs.YtikcggbkkgipoaaDoor
open Go.RowKit Go.Shelf

theorem cellsL_len (c r d s : Int) : ((cellsL c r d s).length : Int) = areaV c r d s := by
  unfold cellsL areaV
  by_cases h : (rgt c r && rgt d s) = true
  · rw [if_pos h, if_pos h, gridL_length, upto_length]
    have e1 : (span (min c d) (max c d) : Int) = max c d - min c d + 1 := by unfold span; omega
    have e2 : (span (min r s) (max r s) : Int) = max r s - min r s + 1 := by unfold span; omega
    push_cast
    rw [e1, e2, Int.mul_comm]
  · rw [if_neg h, if_neg h]; rfl
set_option maxHeartbeats 8000000 in
theorem cellAreas_any (c r d s p q : Int) (x y u v o m : Bool) (i : Int) (i0 : -9223372036854775808 ≤ i) (i1 : i ≤ 9223372036854775807) (w : World) (T : Tabs w) :
    Calls Tryd.prog 4 #[(Value.agg #[Value.int .i64 (c), Value.int .i64 (r), Value.bool x, Value.bool y]), (Value.agg #[Value.int .i64 (d), Value.int .i64 (s), Value.bool u, Value.bool v]), (Value.agg #[Value.int .i64 (p), Value.int .i64 (q), Value.bool o, Value.bool m]), .int .i64 i] w fun en w' => en = .returned (.bool true) ∧ Below w.heap.size w w' := by
  have HT := Lib.hid T
  clear T
  have I1 := Lib.hid (index_any c r x y)
  have I2 := Lib.hid (rindex_any c r x y)
  have A1 := Lib.hid (at_any i i0 i1)
  have A2 := Lib.hid (rat_any i i0 i1)
  have E1 := Lib.hid (area_any d s p q u v o m)
  have E2 := Lib.hid (rarea_any d s p q u v o m)
  have N1 := Lib.hid (inside_any c r d s p q x y u v o m)
  have N2 := Lib.hid (rinside_any c r d s p q x y u v o m)
  have CE := Lib.hid (fun (h : areaV d s p q ≤ 5000) => cells_any d s p q u v o m 6000 (by rw [cellsL_len]; omega))
  have CR := Lib.hid (rcells_any d s p q u v o m)
  have CL := Lib.hid (cellsL_le d s p q)
  generalize idx c r = I at *
  generalize atC i = aC at *
  generalize atR i = aR at *
  generalize areaV d s p q = AV at *
  generalize insV c r d s p q = kI at *
  generalize cellsL d s p q = L at *
  clear i0 i1
  obtain ⟨W, hW, p0, p1, p2, hb, sz⟩ := bx3 w c r d s p q x y u v o m
  have keepS : ∀ A Z : World, ((A.cell? ⟨w.heap.size, 0, none⟩ = some (.int .i64 c) ∧ A.cell? ⟨w.heap.size, 1, none⟩ = some (.int .i64 r) ∧ A.cell? ⟨w.heap.size, 2, none⟩ = some (.bool x) ∧ A.cell? ⟨w.heap.size, 3, none⟩ = some (.bool y) ∧ A.cell? ⟨(w.heap.size + 1), 0, none⟩ = some (.int .i64 d) ∧ A.cell? ⟨(w.heap.size + 1), 1, none⟩ = some (.int .i64 s) ∧ A.cell? ⟨(w.heap.size + 1), 2, none⟩ = some (.bool u) ∧ A.cell? ⟨(w.heap.size + 1), 3, none⟩ = some (.bool v) ∧ A.cell? ⟨(w.heap.size + 1 + 1), 0, none⟩ = some (.int .i64 p) ∧ A.cell? ⟨(w.heap.size + 1 + 1), 1, none⟩ = some (.int .i64 q) ∧ A.cell? ⟨(w.heap.size + 1 + 1), 2, none⟩ = some (.bool o) ∧ A.cell? ⟨(w.heap.size + 1 + 1), 3, none⟩ = some (.bool m)) ∧ (w.heap.size + 1 + 1 < A.heap.size ∧ Below w.heap.size w A)) → Below A.heap.size A Z → ((Z.cell? ⟨w.heap.size, 0, none⟩ = some (.int .i64 c) ∧ Z.cell? ⟨w.heap.size, 1, none⟩ = some (.int .i64 r) ∧ Z.cell? ⟨w.heap.size, 2, none⟩ = some (.bool x) ∧ Z.cell? ⟨w.heap.size, 3, none⟩ = some (.bool y) ∧ Z.cell? ⟨(w.heap.size + 1), 0, none⟩ = some (.int .i64 d) ∧ Z.cell? ⟨(w.heap.size + 1), 1, none⟩ = some (.int .i64 s) ∧ Z.cell? ⟨(w.heap.size + 1), 2, none⟩ = some (.bool u) ∧ Z.cell? ⟨(w.heap.size + 1), 3, none⟩ = some (.bool v) ∧ Z.cell? ⟨(w.heap.size + 1 + 1), 0, none⟩ = some (.int .i64 p) ∧ Z.cell? ⟨(w.heap.size + 1 + 1), 1, none⟩ = some (.int .i64 q) ∧ Z.cell? ⟨(w.heap.size + 1 + 1), 2, none⟩ = some (.bool o) ∧ Z.cell? ⟨(w.heap.size + 1 + 1), 3, none⟩ = some (.bool m)) ∧ (w.heap.size + 1 + 1 < Z.heap.size ∧ Below w.heap.size w Z)) := by
    rintro A Z ⟨hc, l, hb⟩ hx
    have hz := hx.size
    refine ⟨?_, by omega, via hb hx⟩
    simp only [hx.cell (p := ⟨w.heap.size, _, none⟩) (show w.heap.size < A.heap.size by omega), hx.cell (p := ⟨(w.heap.size + 1), _, none⟩) (show w.heap.size + 1 < A.heap.size by omega), hx.cell (p := ⟨(w.heap.size + 1 + 1), _, none⟩) l]
    exact hc
  have KS := Lib.hid keepS
  clear keepS
  have keepD : ∀ A : World, ((A.cell? ⟨w.heap.size, 0, none⟩ = some (.int .i64 c) ∧ A.cell? ⟨w.heap.size, 1, none⟩ = some (.int .i64 r) ∧ A.cell? ⟨w.heap.size, 2, none⟩ = some (.bool x) ∧ A.cell? ⟨w.heap.size, 3, none⟩ = some (.bool y) ∧ A.cell? ⟨(w.heap.size + 1), 0, none⟩ = some (.int .i64 d) ∧ A.cell? ⟨(w.heap.size + 1), 1, none⟩ = some (.int .i64 s) ∧ A.cell? ⟨(w.heap.size + 1), 2, none⟩ = some (.bool u) ∧ A.cell? ⟨(w.heap.size + 1), 3, none⟩ = some (.bool v) ∧ A.cell? ⟨(w.heap.size + 1 + 1), 0, none⟩ = some (.int .i64 p) ∧ A.cell? ⟨(w.heap.size + 1 + 1), 1, none⟩ = some (.int .i64 q) ∧ A.cell? ⟨(w.heap.size + 1 + 1), 2, none⟩ = some (.bool o) ∧ A.cell? ⟨(w.heap.size + 1 + 1), 3, none⟩ = some (.bool m)) ∧ (w.heap.size + 1 + 1 < A.heap.size ∧ Below w.heap.size w A)) → ((A.drew.cell? ⟨w.heap.size, 0, none⟩ = some (.int .i64 c) ∧ A.drew.cell? ⟨w.heap.size, 1, none⟩ = some (.int .i64 r) ∧ A.drew.cell? ⟨w.heap.size, 2, none⟩ = some (.bool x) ∧ A.drew.cell? ⟨w.heap.size, 3, none⟩ = some (.bool y) ∧ A.drew.cell? ⟨(w.heap.size + 1), 0, none⟩ = some (.int .i64 d) ∧ A.drew.cell? ⟨(w.heap.size + 1), 1, none⟩ = some (.int .i64 s) ∧ A.drew.cell? ⟨(w.heap.size + 1), 2, none⟩ = some (.bool u) ∧ A.drew.cell? ⟨(w.heap.size + 1), 3, none⟩ = some (.bool v) ∧ A.drew.cell? ⟨(w.heap.size + 1 + 1), 0, none⟩ = some (.int .i64 p) ∧ A.drew.cell? ⟨(w.heap.size + 1 + 1), 1, none⟩ = some (.int .i64 q) ∧ A.drew.cell? ⟨(w.heap.size + 1 + 1), 2, none⟩ = some (.bool o) ∧ A.drew.cell? ⟨(w.heap.size + 1 + 1), 3, none⟩ = some (.bool m)) ∧ (w.heap.size + 1 + 1 < A.drew.heap.size ∧ Below w.heap.size w A.drew)) := fun A h => ⟨h.1, h.2.1, h.2.2.drew⟩
  have KD := Lib.hid keepD
  clear keepD
  have FIN := Lib.hid (fun (W : World) (h : (W.cell? ⟨w.heap.size, 0, none⟩ = some (.int .i64 c) ∧ W.cell? ⟨w.heap.size, 1, none⟩ = some (.int .i64 r) ∧ W.cell? ⟨w.heap.size, 2, none⟩ = some (.bool x) ∧ W.cell? ⟨w.heap.size, 3, none⟩ = some (.bool y) ∧ W.cell? ⟨(w.heap.size + 1), 0, none⟩ = some (.int .i64 d) ∧ W.cell? ⟨(w.heap.size + 1), 1, none⟩ = some (.int .i64 s) ∧ W.cell? ⟨(w.heap.size + 1), 2, none⟩ = some (.bool u) ∧ W.cell? ⟨(w.heap.size + 1), 3, none⟩ = some (.bool v) ∧ W.cell? ⟨(w.heap.size + 1 + 1), 0, none⟩ = some (.int .i64 p) ∧ W.cell? ⟨(w.heap.size + 1 + 1), 1, none⟩ = some (.int .i64 q) ∧ W.cell? ⟨(w.heap.size + 1 + 1), 2, none⟩ = some (.bool o) ∧ W.cell? ⟨(w.heap.size + 1 + 1), 3, none⟩ = some (.bool m)) ∧ (w.heap.size + 1 + 1 < W.heap.size ∧ Below w.heap.size w W)) => h.2.2)
  have ST : (W.cell? ⟨w.heap.size, 0, none⟩ = some (.int .i64 c) ∧ W.cell? ⟨w.heap.size, 1, none⟩ = some (.int .i64 r) ∧ W.cell? ⟨w.heap.size, 2, none⟩ = some (.bool x) ∧ W.cell? ⟨w.heap.size, 3, none⟩ = some (.bool y) ∧ W.cell? ⟨(w.heap.size + 1), 0, none⟩ = some (.int .i64 d) ∧ W.cell? ⟨(w.heap.size + 1), 1, none⟩ = some (.int .i64 s) ∧ W.cell? ⟨(w.heap.size + 1), 2, none⟩ = some (.bool u) ∧ W.cell? ⟨(w.heap.size + 1), 3, none⟩ = some (.bool v) ∧ W.cell? ⟨(w.heap.size + 1 + 1), 0, none⟩ = some (.int .i64 p) ∧ W.cell? ⟨(w.heap.size + 1 + 1), 1, none⟩ = some (.int .i64 q) ∧ W.cell? ⟨(w.heap.size + 1 + 1), 2, none⟩ = some (.bool o) ∧ W.cell? ⟨(w.heap.size + 1 + 1), 3, none⟩ = some (.bool m)) ∧ (w.heap.size + 1 + 1 < W.heap.size ∧ Below w.heap.size w W) := ⟨⟨p0.c, p0.r, p0.x, p0.y, p1.c, p1.r, p1.x, p1.y, p2.c, p2.r, p2.x, p2.y⟩, sz, hb⟩
  clear p0 p1 p2 sz
  have HB0 := Lib.hid hb
  clear hb
  go_enter Tryd.func4, Tryd.ntmps4
  go_wp2_with fail
  refine (shown_any _ (HT.out.below HB0.out)).mono ?_
  rintro e v1 ⟨rfl, hbn⟩
  have st := KS.out _ _ ST hbn
  clear hW ST hbn HB0
  have ST := Lib.hid st
  go_wp2
  go_region_held3 (fun W => (W.cell? ⟨w.heap.size, 0, none⟩ = some (.int .i64 c) ∧ W.cell? ⟨w.heap.size, 1, none⟩ = some (.int .i64 r) ∧ W.cell? ⟨w.heap.size, 2, none⟩ = some (.bool x) ∧ W.cell? ⟨w.heap.size, 3, none⟩ = some (.bool y) ∧ W.cell? ⟨(w.heap.size + 1), 0, none⟩ = some (.int .i64 d) ∧ W.cell? ⟨(w.heap.size + 1), 1, none⟩ = some (.int .i64 s) ∧ W.cell? ⟨(w.heap.size + 1), 2, none⟩ = some (.bool u) ∧ W.cell? ⟨(w.heap.size + 1), 3, none⟩ = some (.bool v) ∧ W.cell? ⟨(w.heap.size + 1 + 1), 0, none⟩ = some (.int .i64 p) ∧ W.cell? ⟨(w.heap.size + 1 + 1), 1, none⟩ = some (.int .i64 q) ∧ W.cell? ⟨(w.heap.size + 1 + 1), 2, none⟩ = some (.bool o) ∧ W.cell? ⟨(w.heap.size + 1 + 1), 3, none⟩ = some (.bool m)) ∧ (w.heap.size + 1 + 1 < W.heap.size ∧ Below w.heap.size w W)) (first | exact KD.out _ ST.out | exact KS.out _ _ (by assumption) (by assumption)) (first | (go_at_call 16; refine (I1.out _).mono ?_; rintro e wz ⟨rfl, hbz⟩) | (go_at_call 17; refine (I2.out _).mono ?_; rintro e wz ⟨rfl, hbz⟩) | (go_at_call 18; refine (A1.out _).mono ?_; rintro e wz ⟨rfl, hbz⟩) | (go_at_call 19; refine (A2.out _).mono ?_; rintro e wz ⟨rfl, hbz⟩) | (go_at_call 20; refine (E1.out _).mono ?_; rintro e wz ⟨rfl, hbz⟩) | (go_at_call 21; refine (E2.out _).mono ?_; rintro e wz ⟨rfl, hbz⟩) | (go_at_call 22; refine (N1.out _).mono ?_; rintro e wz ⟨rfl, hbz⟩) | (go_at_call 23; refine (N2.out _).mono ?_; rintro e wz ⟨rfl, hbz⟩))
  all_goals
    clear st
    go_wp2_with fail
    refine (E2.out _).mono ?_
    rintro e wq ⟨rfl, hbq⟩
    have st2 := KS.out _ _ (by assumption) hbq
    have ST2 := Lib.hid st2
    clear hbq
    by_cases hA : 5000 < AV
    · go_wp2
      go_ret
      exact ⟨rfl, FIN.out _ ST2.out⟩
    · have CE2 := Lib.hid (CE.out (by omega))
      go_wp2
      clear st2
      go_region_held3 (fun W => (W.cell? ⟨w.heap.size, 0, none⟩ = some (.int .i64 c) ∧ W.cell? ⟨w.heap.size, 1, none⟩ = some (.int .i64 r) ∧ W.cell? ⟨w.heap.size, 2, none⟩ = some (.bool x) ∧ W.cell? ⟨w.heap.size, 3, none⟩ = some (.bool y) ∧ W.cell? ⟨(w.heap.size + 1), 0, none⟩ = some (.int .i64 d) ∧ W.cell? ⟨(w.heap.size + 1), 1, none⟩ = some (.int .i64 s) ∧ W.cell? ⟨(w.heap.size + 1), 2, none⟩ = some (.bool u) ∧ W.cell? ⟨(w.heap.size + 1), 3, none⟩ = some (.bool v) ∧ W.cell? ⟨(w.heap.size + 1 + 1), 0, none⟩ = some (.int .i64 p) ∧ W.cell? ⟨(w.heap.size + 1 + 1), 1, none⟩ = some (.int .i64 q) ∧ W.cell? ⟨(w.heap.size + 1 + 1), 2, none⟩ = some (.bool o) ∧ W.cell? ⟨(w.heap.size + 1 + 1), 3, none⟩ = some (.bool m)) ∧ (w.heap.size + 1 + 1 < W.heap.size ∧ Below w.heap.size w W)) (first | exact KD.out _ ST2.out | exact KS.out _ _ (by assumption) (by assumption)) (first | (go_at_call 25; refine (CE2.out _).mono ?_; rintro e wa ⟨va, rfl, hownA, hba⟩) | (go_at_call 26; refine (CR.out _).mono ?_; rintro e wb ⟨vb, rfl, hownB, hbb⟩) | (go_at_call 24; refine (same_any L _ _ _ _ _ (own_below hownA hbb) hownB CL.out).mono ?_; rintro e wc ⟨rfl, hbc⟩))
      all_goals
        go_wp2
        go_ret
        exact ⟨rfl, FIN.out _ (by assumption)⟩
end Go.Proofs.YtikcggbkkgipoaaDoor
