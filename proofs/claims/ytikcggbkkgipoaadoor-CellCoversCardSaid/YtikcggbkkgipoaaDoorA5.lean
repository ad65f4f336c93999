/-
  Package cell and the document's cells: Area, Inside: walked.
-/
import Derived.Test.YtikcggbkkgipoaaDoorA2
namespace Go.Proofs.YtikcggbkkgipoaaDoor
open Go.RowKit Go.Shelf

/-- An area's size. -/
def areaV (c r d s : Int) : Int := if (rgt c r && rgt d s) = true then (max c d - min c d + 1) * (max r s - min r s + 1) else 0
theorem areaV_t {c r d s : Int} (h1 : rgt c r = true) (h2 : rgt d s = true) : areaV c r d s = (max c d - min c d + 1) * (max r s - min r s + 1) := by unfold areaV; rw [h1, h2]; exact if_pos rfl
theorem areaV_f1 {c r d s : Int} (h1 : rgt c r = false) : areaV c r d s = 0 := by unfold areaV; rw [h1]; exact if_neg (by simp)
theorem areaV_f2 {c r d s : Int} (h1 : rgt c r = true) (h2 : rgt d s = false) : areaV c r d s = 0 := by unfold areaV; rw [h1, h2]; exact if_neg (by simp)
/-- Inside the area between two. -/
def insV (c r d s p q : Int) : Bool := rgt c r && rgt d s && rgt p q && decide (min d p ≤ c) && decide (c ≤ max d p) && decide (min s q ≤ r) && decide (r ≤ max s q)
theorem bx2 (w : World) (c r d s : Int) (x y u v : Bool) : ∃ W, (w.alloc (.cells #[.int .i64 c, .int .i64 r, .bool x, .bool y] 23)).alloc (.cells #[.int .i64 d, .int .i64 s, .bool u, .bool v] 23) = W ∧
    BoxR W w.heap.size c r x y ∧ BoxR W (w.heap.size + 1) d s u v ∧ Below w.heap.size w W ∧ w.heap.size + 1 < W.heap.size := by
  refine ⟨_, rfl, ?_, ?_, by (repeat' first | exact Below.refl _ _ | refine Below.alloc ?_ ?_ _ | refine Below.setCell ?_ ?_ _ | refine below_drewN ?_ _ | (simp; done) | (simp; omega)), by simp⟩
  · exact (BoxR.new w c r x y).on (Below.new1 _ _) (by simp)
  · have h := BoxR.new (w.alloc (.cells #[.int .i64 c, .int .i64 r, .bool x, .bool y] 23)) d s u v
    rw [World.size_alloc] at h
    exact h
theorem bx3 (w : World) (c r d s p q : Int) (x y u v o m : Bool) : ∃ W, ((w.alloc (.cells #[.int .i64 c, .int .i64 r, .bool x, .bool y] 23)).alloc (.cells #[.int .i64 d, .int .i64 s, .bool u, .bool v] 23)).alloc (.cells #[.int .i64 p, .int .i64 q, .bool o, .bool m] 23) = W ∧
    BoxR W w.heap.size c r x y ∧ BoxR W (w.heap.size + 1) d s u v ∧ BoxR W (w.heap.size + 1 + 1) p q o m ∧ Below w.heap.size w W ∧ w.heap.size + 1 + 1 < W.heap.size := by
  refine ⟨_, rfl, ?_, ?_, ?_, by (repeat' first | exact Below.refl _ _ | refine Below.alloc ?_ ?_ _ | refine Below.setCell ?_ ?_ _ | refine below_drewN ?_ _ | (simp; done) | (simp; omega)), by simp⟩
  · exact ((BoxR.new w c r x y).on (Below.new1 _ _) (by simp)).on (Below.new1 _ _) (by simp [World.size_alloc] <;> omega)
  · have h := BoxR.new (w.alloc (.cells #[.int .i64 c, .int .i64 r, .bool x, .bool y] 23)) d s u v
    rw [World.size_alloc] at h
    exact h.on (Below.new1 _ _) (by simp)
  · have h := BoxR.new ((w.alloc (.cells #[.int .i64 c, .int .i64 r, .bool x, .bool y] 23)).alloc (.cells #[.int .i64 d, .int .i64 s, .bool u, .bool v] 23)) p q o m
    rw [World.size_alloc, World.size_alloc] at h
    exact h
theorem area_any (c r d s : Int) (x y u v : Bool) (w : World) :
    Calls Tryd.prog 20 #[(Value.agg #[Value.int .i64 (c), Value.int .i64 (r), Value.bool x, Value.bool y]), (Value.agg #[Value.int .i64 (d), Value.int .i64 (s), Value.bool u, Value.bool v])] w fun e w' => e = .returned (.int .i64 (areaV c r d s)) ∧ Below w.heap.size w w' := by
  obtain ⟨W, hW, p0, p1, hb, sz⟩ := bx2 w c r d s x y u v
  have P0 := Lib.hid p0; have P1 := Lib.hid p1; have HB := Lib.hid hb; have SZ := Lib.hid sz
  clear p0 p1 hb sz
  have R0 := Lib.hid (fun W => right_any c r x y W)
  have R1 := Lib.hid (fun W => right_any d s u v W)
  obtain ⟨a00, a01, a02, a03⟩ := P0.out
  obtain ⟨a10, a11, a12, a13⟩ := P1.out
  by_cases g0 : rgt c r = true
  · rw [g0] at R0
    by_cases g1 : rgt d s = true
    · rw [g1] at R1
      rw [areaV_t g0 g1]
      obtain ⟨c0, c1, r0, r1⟩ := rgt_iff.1 g0
      obtain ⟨d0, d1, s0, s1⟩ := rgt_iff.1 g1
      have CO := Lib.hid (fun W => corners_any c r d s x y u v W)
      have k1 : 0 ≤ max c d - min c d ∧ max c d - min c d < 64 := by omega
      have k2 : 0 ≤ max r s - min r s ∧ max r s - min r s < 1000 := by omega
      generalize hC : min c d = C at *
      generalize hD : max c d = D at *
      generalize hR : min r s = R at *
      generalize hS : max r s = S at *
      have e1 : IntKind.i64.wrap (D - C) = D - C := by rw [IntKind.wrap_i64]; omega
      have e2 : IntKind.i64.wrap (D - C + 1) = D - C + 1 := by rw [IntKind.wrap_i64]; omega
      have e3 : IntKind.i64.wrap (S - R) = S - R := by rw [IntKind.wrap_i64]; omega
      have e4 : IntKind.i64.wrap (S - R + 1) = S - R + 1 := by rw [IntKind.wrap_i64]; omega
      have e5 : IntKind.i64.wrap ((D - C + 1) * (S - R + 1)) = (D - C + 1) * (S - R + 1) := by
        have : 0 ≤ (D - C + 1) * (S - R + 1) := Int.mul_nonneg (by omega) (by omega)
        have : (D - C + 1) * (S - R + 1) ≤ 1000 * 1000 := Int.mul_le_mul (by omega) (by omega) (by omega) (by omega)
        rw [IntKind.wrap_i64]; omega
      clear g0 g1 c0 c1 r0 r1 d0 d1 s0 s1 k1 k2 hC hD hR hS
      go_enter Tryd.func20, Tryd.ntmps20
      go_wp2_with fail
      refine (R0.out _).mono ?_
      rintro en w1 ⟨rfl, hb2⟩
      clear hW a00 a01 a02 a03 a10 a11 a12 a13
      have p0 := P0.out.on hb2 (by have := SZ.out; omega)
      have p1 := P1.out.on hb2 (by have := SZ.out; omega)
      have hbn := via HB.out hb2
      have szn : (w.heap.size + 1) < w1.heap.size := by have := hb2.size; have := SZ.out; omega
      clear HB SZ hb2 P0 P1
      have HB := Lib.hid hbn; have SZ := Lib.hid szn; have P0 := Lib.hid p0; have P1 := Lib.hid p1
      clear hbn szn p0 p1
      obtain ⟨a00, a01, a02, a03⟩ := P0.out
      obtain ⟨a10, a11, a12, a13⟩ := P1.out
      go_wp2_with fail
      refine (R1.out _).mono ?_
      rintro en w2 ⟨rfl, hb2⟩
      clear a00 a01 a02 a03 a10 a11 a12 a13
      have p0 := P0.out.on hb2 (by have := SZ.out; omega)
      have p1 := P1.out.on hb2 (by have := SZ.out; omega)
      have hbn := via HB.out hb2
      have szn : (w.heap.size + 1) < w2.heap.size := by have := hb2.size; have := SZ.out; omega
      clear HB SZ hb2 P0 P1
      have HB := Lib.hid hbn; have SZ := Lib.hid szn; have P0 := Lib.hid p0; have P1 := Lib.hid p1
      clear hbn szn p0 p1
      obtain ⟨a00, a01, a02, a03⟩ := P0.out
      obtain ⟨a10, a11, a12, a13⟩ := P1.out
      go_wp2_with fail
      refine (CO.out _).mono ?_
      rintro en w3 ⟨rfl, hb2⟩
      clear a00 a01 a02 a03 a10 a11 a12 a13
      have p0 := P0.out.on hb2 (by have := SZ.out; omega)
      have p1 := P1.out.on hb2 (by have := SZ.out; omega)
      have hbn := via HB.out hb2
      have szn : (w.heap.size + 1) < w3.heap.size := by have := hb2.size; have := SZ.out; omega
      clear HB SZ hb2 P0 P1
      have HB := Lib.hid hbn; have SZ := Lib.hid szn; have P0 := Lib.hid p0; have P1 := Lib.hid p1
      clear hbn szn p0 p1
      obtain ⟨a00, a01, a02, a03⟩ := P0.out
      obtain ⟨a10, a11, a12, a13⟩ := P1.out
      go_wp2
      go_ret
      have hB := HB.out
      have hs := hB.size
      exact ⟨rfl, by (repeat' first | exact Below.refl _ _ | assumption | refine Below.drew ?_ | refine Below.alloc ?_ ?_ _ | refine Below.setCell ?_ ?_ _ | refine below_drewN ?_ _ | (simp; done) | omega | (simp; omega))⟩
    · rw [Bool.not_eq_true] at g1
      rw [g1] at R1
      rw [areaV_f2 g0 g1]
      clear g0 g1
      go_enter Tryd.func20, Tryd.ntmps20
      go_wp2_with fail
      refine (R0.out _).mono ?_
      rintro en w4 ⟨rfl, hb2⟩
      clear hW a00 a01 a02 a03 a10 a11 a12 a13
      have p0 := P0.out.on hb2 (by have := SZ.out; omega)
      have p1 := P1.out.on hb2 (by have := SZ.out; omega)
      have hbn := via HB.out hb2
      have szn : (w.heap.size + 1) < w4.heap.size := by have := hb2.size; have := SZ.out; omega
      clear HB SZ hb2 P0 P1
      have HB := Lib.hid hbn; have SZ := Lib.hid szn; have P0 := Lib.hid p0; have P1 := Lib.hid p1
      clear hbn szn p0 p1
      obtain ⟨a00, a01, a02, a03⟩ := P0.out
      obtain ⟨a10, a11, a12, a13⟩ := P1.out
      go_wp2_with fail
      refine (R1.out _).mono ?_
      rintro en w5 ⟨rfl, hb2⟩
      clear a00 a01 a02 a03 a10 a11 a12 a13
      have p0 := P0.out.on hb2 (by have := SZ.out; omega)
      have p1 := P1.out.on hb2 (by have := SZ.out; omega)
      have hbn := via HB.out hb2
      have szn : (w.heap.size + 1) < w5.heap.size := by have := hb2.size; have := SZ.out; omega
      clear HB SZ hb2 P0 P1
      have HB := Lib.hid hbn; have SZ := Lib.hid szn; have P0 := Lib.hid p0; have P1 := Lib.hid p1
      clear hbn szn p0 p1
      obtain ⟨a00, a01, a02, a03⟩ := P0.out
      obtain ⟨a10, a11, a12, a13⟩ := P1.out
      go_wp2
      go_ret
      have hB := HB.out
      have hs := hB.size
      exact ⟨rfl, by (repeat' first | exact Below.refl _ _ | assumption | refine Below.drew ?_ | refine Below.alloc ?_ ?_ _ | refine Below.setCell ?_ ?_ _ | refine below_drewN ?_ _ | (simp; done) | omega | (simp; omega))⟩
  · rw [Bool.not_eq_true] at g0
    rw [g0] at R0
    rw [areaV_f1 g0]
    clear g0
    go_enter Tryd.func20, Tryd.ntmps20
    go_wp2_with fail
    refine (R0.out _).mono ?_
    rintro en w6 ⟨rfl, hb2⟩
    clear hW a00 a01 a02 a03 a10 a11 a12 a13
    have p0 := P0.out.on hb2 (by have := SZ.out; omega)
    have p1 := P1.out.on hb2 (by have := SZ.out; omega)
    have hbn := via HB.out hb2
    have szn : (w.heap.size + 1) < w6.heap.size := by have := hb2.size; have := SZ.out; omega
    clear HB SZ hb2 P0 P1
    have HB := Lib.hid hbn; have SZ := Lib.hid szn; have P0 := Lib.hid p0; have P1 := Lib.hid p1
    clear hbn szn p0 p1
    obtain ⟨a00, a01, a02, a03⟩ := P0.out
    obtain ⟨a10, a11, a12, a13⟩ := P1.out
    go_wp2
    go_ret
    have hB := HB.out
    have hs := hB.size
    exact ⟨rfl, by (repeat' first | exact Below.refl _ _ | assumption | refine Below.drew ?_ | refine Below.alloc ?_ ?_ _ | refine Below.setCell ?_ ?_ _ | refine below_drewN ?_ _ | (simp; done) | omega | (simp; omega))⟩
set_option maxHeartbeats 1000000 in
theorem rarea_any (c r d s : Int) (x y u v : Bool) (w : World) :
    Calls Tryd.prog 21 #[(Value.agg #[Value.int .i64 (c), Value.int .i64 (r), Value.bool x, Value.bool y]), (Value.agg #[Value.int .i64 (d), Value.int .i64 (s), Value.bool u, Value.bool v])] w fun e w' => e = .returned (.int .i64 (areaV c r d s)) ∧ Below w.heap.size w w' := by
  obtain ⟨W, hW, p0, p1, hb, sz⟩ := bx2 w c r d s x y u v
  have P0 := Lib.hid p0; have P1 := Lib.hid p1; have HB := Lib.hid hb; have SZ := Lib.hid sz
  clear p0 p1 hb sz
  have R0 := Lib.hid (fun W => rright_any c r x y W)
  have R1 := Lib.hid (fun W => rright_any d s u v W)
  obtain ⟨a00, a01, a02, a03⟩ := P0.out
  obtain ⟨a10, a11, a12, a13⟩ := P1.out
  by_cases g0 : rgt c r = true
  · rw [g0] at R0
    by_cases g1 : rgt d s = true
    · rw [g1] at R1
      rw [areaV_t g0 g1]
      obtain ⟨c0, c1, r0, r1⟩ := rgt_iff.1 g0
      obtain ⟨d0, d1, s0, s1⟩ := rgt_iff.1 g1
      have k1 : 0 ≤ max c d - min c d ∧ max c d - min c d < 64 := by omega
      have k2 : 0 ≤ max r s - min r s ∧ max r s - min r s < 1000 := by omega
      generalize hC : min c d = C at *
      generalize hD : max c d = D at *
      generalize hR : min r s = R at *
      generalize hS : max r s = S at *
      have e1 : IntKind.i64.wrap (D - C) = D - C := by rw [IntKind.wrap_i64]; omega
      have e2 : IntKind.i64.wrap (D - C + 1) = D - C + 1 := by rw [IntKind.wrap_i64]; omega
      have e3 : IntKind.i64.wrap (S - R) = S - R := by rw [IntKind.wrap_i64]; omega
      have e4 : IntKind.i64.wrap (S - R + 1) = S - R + 1 := by rw [IntKind.wrap_i64]; omega
      rw [Int.mul_comm]
      have e5 : IntKind.i64.wrap ((S - R + 1) * (D - C + 1)) = (S - R + 1) * (D - C + 1) := by
        have : 0 ≤ (S - R + 1) * (D - C + 1) := Int.mul_nonneg (by omega) (by omega)
        have : (S - R + 1) * (D - C + 1) ≤ 1000 * 1000 := Int.mul_le_mul (by omega) (by omega) (by omega) (by omega)
        rw [IntKind.wrap_i64]; omega
      clear g0 g1 c0 c1 r0 r1 d0 d1 s0 s1 k1 k2
      go_enter Tryd.func21, Tryd.ntmps21
      go_wp2_with fail
      refine (R0.out _).mono ?_
      rintro en w1 ⟨rfl, hb2⟩
      clear hW a00 a01 a02 a03 a10 a11 a12 a13
      have p0 := P0.out.on hb2 (by have := SZ.out; omega)
      have p1 := P1.out.on hb2 (by have := SZ.out; omega)
      have hbn := via HB.out hb2
      have szn : (w.heap.size + 1) < w1.heap.size := by have := hb2.size; have := SZ.out; omega
      clear HB SZ hb2 P0 P1
      have HB := Lib.hid hbn; have SZ := Lib.hid szn; have P0 := Lib.hid p0; have P1 := Lib.hid p1
      clear hbn szn p0 p1
      obtain ⟨a00, a01, a02, a03⟩ := P0.out
      obtain ⟨a10, a11, a12, a13⟩ := P1.out
      go_wp2_with fail
      refine (R1.out _).mono ?_
      rintro en w2 ⟨rfl, hb2⟩
      clear a00 a01 a02 a03 a10 a11 a12 a13
      have p0 := P0.out.on hb2 (by have := SZ.out; omega)
      have p1 := P1.out.on hb2 (by have := SZ.out; omega)
      have hbn := via HB.out hb2
      have szn : (w.heap.size + 1) < w2.heap.size := by have := hb2.size; have := SZ.out; omega
      clear HB SZ hb2 P0 P1
      have HB := Lib.hid hbn; have SZ := Lib.hid szn; have P0 := Lib.hid p0; have P1 := Lib.hid p1
      clear hbn szn p0 p1
      obtain ⟨a00, a01, a02, a03⟩ := P0.out
      obtain ⟨a10, a11, a12, a13⟩ := P1.out
      go_wp2
      go_ret
      have hB := HB.out
      have hs := hB.size
      exact ⟨rfl, by (repeat' first | exact Below.refl _ _ | assumption | refine Below.drew ?_ | refine Below.alloc ?_ ?_ _ | refine Below.setCell ?_ ?_ _ | refine below_drewN ?_ _ | (simp; done) | omega | (simp; omega))⟩
    · rw [Bool.not_eq_true] at g1
      rw [g1] at R1
      rw [areaV_f2 g0 g1]
      clear g0 g1
      go_enter Tryd.func21, Tryd.ntmps21
      go_wp2_with fail
      refine (R0.out _).mono ?_
      rintro en w3 ⟨rfl, hb2⟩
      clear hW a00 a01 a02 a03 a10 a11 a12 a13
      have p0 := P0.out.on hb2 (by have := SZ.out; omega)
      have p1 := P1.out.on hb2 (by have := SZ.out; omega)
      have hbn := via HB.out hb2
      have szn : (w.heap.size + 1) < w3.heap.size := by have := hb2.size; have := SZ.out; omega
      clear HB SZ hb2 P0 P1
      have HB := Lib.hid hbn; have SZ := Lib.hid szn; have P0 := Lib.hid p0; have P1 := Lib.hid p1
      clear hbn szn p0 p1
      obtain ⟨a00, a01, a02, a03⟩ := P0.out
      obtain ⟨a10, a11, a12, a13⟩ := P1.out
      go_wp2_with fail
      refine (R1.out _).mono ?_
      rintro en w4 ⟨rfl, hb2⟩
      clear a00 a01 a02 a03 a10 a11 a12 a13
      have p0 := P0.out.on hb2 (by have := SZ.out; omega)
      have p1 := P1.out.on hb2 (by have := SZ.out; omega)
      have hbn := via HB.out hb2
      have szn : (w.heap.size + 1) < w4.heap.size := by have := hb2.size; have := SZ.out; omega
      clear HB SZ hb2 P0 P1
      have HB := Lib.hid hbn; have SZ := Lib.hid szn; have P0 := Lib.hid p0; have P1 := Lib.hid p1
      clear hbn szn p0 p1
      obtain ⟨a00, a01, a02, a03⟩ := P0.out
      obtain ⟨a10, a11, a12, a13⟩ := P1.out
      go_wp2
      go_ret
      have hB := HB.out
      have hs := hB.size
      exact ⟨rfl, by (repeat' first | exact Below.refl _ _ | assumption | refine Below.drew ?_ | refine Below.alloc ?_ ?_ _ | refine Below.setCell ?_ ?_ _ | refine below_drewN ?_ _ | (simp; done) | omega | (simp; omega))⟩
  · rw [Bool.not_eq_true] at g0
    rw [g0] at R0
    rw [areaV_f1 g0]
    clear g0
    go_enter Tryd.func21, Tryd.ntmps21
    go_wp2_with fail
    refine (R0.out _).mono ?_
    rintro en w5 ⟨rfl, hb2⟩
    clear hW a00 a01 a02 a03 a10 a11 a12 a13
    have p0 := P0.out.on hb2 (by have := SZ.out; omega)
    have p1 := P1.out.on hb2 (by have := SZ.out; omega)
    have hbn := via HB.out hb2
    have szn : (w.heap.size + 1) < w5.heap.size := by have := hb2.size; have := SZ.out; omega
    clear HB SZ hb2 P0 P1
    have HB := Lib.hid hbn; have SZ := Lib.hid szn; have P0 := Lib.hid p0; have P1 := Lib.hid p1
    clear hbn szn p0 p1
    obtain ⟨a00, a01, a02, a03⟩ := P0.out
    obtain ⟨a10, a11, a12, a13⟩ := P1.out
    go_wp2_with fail
    refine (R1.out _).mono ?_
    rintro en w6 ⟨rfl, hb2⟩
    clear a00 a01 a02 a03 a10 a11 a12 a13
    have p0 := P0.out.on hb2 (by have := SZ.out; omega)
    have p1 := P1.out.on hb2 (by have := SZ.out; omega)
    have hbn := via HB.out hb2
    have szn : (w.heap.size + 1) < w6.heap.size := by have := hb2.size; have := SZ.out; omega
    clear HB SZ hb2 P0 P1
    have HB := Lib.hid hbn; have SZ := Lib.hid szn; have P0 := Lib.hid p0; have P1 := Lib.hid p1
    clear hbn szn p0 p1
    obtain ⟨a00, a01, a02, a03⟩ := P0.out
    obtain ⟨a10, a11, a12, a13⟩ := P1.out
    go_wp2
    go_ret
    have hB := HB.out
    have hs := hB.size
    exact ⟨rfl, by (repeat' first | exact Below.refl _ _ | assumption | refine Below.drew ?_ | refine Below.alloc ?_ ?_ _ | refine Below.setCell ?_ ?_ _ | refine below_drewN ?_ _ | (simp; done) | omega | (simp; omega))⟩
set_option maxHeartbeats 2000000 in
theorem inside_any (c r d s p q : Int) (x y u v o m : Bool) (w : World) :
    Calls Tryd.prog 22 #[(Value.agg #[Value.int .i64 (c), Value.int .i64 (r), Value.bool x, Value.bool y]), (Value.agg #[Value.int .i64 (d), Value.int .i64 (s), Value.bool u, Value.bool v]), (Value.agg #[Value.int .i64 (p), Value.int .i64 (q), Value.bool o, Value.bool m])] w fun e w' => e = .returned (.bool (insV c r d s p q)) ∧ Below w.heap.size w w' := by
  obtain ⟨W, hW, p0, p1, p2, hb, sz⟩ := bx3 w c r d s p q x y u v o m
  have P0 := Lib.hid p0; have P1 := Lib.hid p1; have P2 := Lib.hid p2; have HB := Lib.hid hb; have SZ := Lib.hid sz
  clear p0 p1 p2 hb sz
  have R0 := Lib.hid (fun W => right_any c r x y W)
  have R1 := Lib.hid (fun W => right_any d s u v W)
  have R2 := Lib.hid (fun W => right_any p q o m W)
  obtain ⟨a00, a01, a02, a03⟩ := P0.out
  obtain ⟨a10, a11, a12, a13⟩ := P1.out
  obtain ⟨a20, a21, a22, a23⟩ := P2.out
  by_cases g0 : rgt c r = true
  · rw [g0] at R0
    by_cases g1 : rgt d s = true
    · rw [g1] at R1
      by_cases g2 : rgt p q = true
      · rw [g2] at R2
        unfold insV
        rw [g0, g1, g2]
        have CO := Lib.hid (fun W => corners_any d s p q u v o m W)
        generalize hC : min d p = C at *
        generalize hD : max d p = D at *
        generalize hR : min s q = R at *
        generalize hS : max s q = S at *
        clear g0 g1 g2 hC hD hR hS
        go_enter Tryd.func22, Tryd.ntmps22
        go_wp2_with fail
        refine (R0.out _).mono ?_
        rintro en w1 ⟨rfl, hb2⟩
        clear hW a00 a01 a02 a03 a10 a11 a12 a13 a20 a21 a22 a23
        have p0 := P0.out.on hb2 (by have := SZ.out; omega)
        have p1 := P1.out.on hb2 (by have := SZ.out; omega)
        have p2 := P2.out.on hb2 (by have := SZ.out; omega)
        have hbn := via HB.out hb2
        have szn : (w.heap.size + 1 + 1) < w1.heap.size := by have := hb2.size; have := SZ.out; omega
        clear HB SZ hb2 P0 P1 P2
        have HB := Lib.hid hbn; have SZ := Lib.hid szn; have P0 := Lib.hid p0; have P1 := Lib.hid p1; have P2 := Lib.hid p2
        clear hbn szn p0 p1 p2
        obtain ⟨a00, a01, a02, a03⟩ := P0.out
        obtain ⟨a10, a11, a12, a13⟩ := P1.out
        obtain ⟨a20, a21, a22, a23⟩ := P2.out
        go_wp2_with fail
        refine (R1.out _).mono ?_
        rintro en w2 ⟨rfl, hb2⟩
        clear a00 a01 a02 a03 a10 a11 a12 a13 a20 a21 a22 a23
        have p0 := P0.out.on hb2 (by have := SZ.out; omega)
        have p1 := P1.out.on hb2 (by have := SZ.out; omega)
        have p2 := P2.out.on hb2 (by have := SZ.out; omega)
        have hbn := via HB.out hb2
        have szn : (w.heap.size + 1 + 1) < w2.heap.size := by have := hb2.size; have := SZ.out; omega
        clear HB SZ hb2 P0 P1 P2
        have HB := Lib.hid hbn; have SZ := Lib.hid szn; have P0 := Lib.hid p0; have P1 := Lib.hid p1; have P2 := Lib.hid p2
        clear hbn szn p0 p1 p2
        obtain ⟨a00, a01, a02, a03⟩ := P0.out
        obtain ⟨a10, a11, a12, a13⟩ := P1.out
        obtain ⟨a20, a21, a22, a23⟩ := P2.out
        go_wp2_with fail
        refine (R2.out _).mono ?_
        rintro en w3 ⟨rfl, hb2⟩
        clear a00 a01 a02 a03 a10 a11 a12 a13 a20 a21 a22 a23
        have p0 := P0.out.on hb2 (by have := SZ.out; omega)
        have p1 := P1.out.on hb2 (by have := SZ.out; omega)
        have p2 := P2.out.on hb2 (by have := SZ.out; omega)
        have hbn := via HB.out hb2
        have szn : (w.heap.size + 1 + 1) < w3.heap.size := by have := hb2.size; have := SZ.out; omega
        clear HB SZ hb2 P0 P1 P2
        have HB := Lib.hid hbn; have SZ := Lib.hid szn; have P0 := Lib.hid p0; have P1 := Lib.hid p1; have P2 := Lib.hid p2
        clear hbn szn p0 p1 p2
        obtain ⟨a00, a01, a02, a03⟩ := P0.out
        obtain ⟨a10, a11, a12, a13⟩ := P1.out
        obtain ⟨a20, a21, a22, a23⟩ := P2.out
        go_wp2_with fail
        refine (CO.out _).mono ?_
        rintro en w4 ⟨rfl, hb2⟩
        clear a00 a01 a02 a03 a10 a11 a12 a13 a20 a21 a22 a23
        have p0 := P0.out.on hb2 (by have := SZ.out; omega)
        have p1 := P1.out.on hb2 (by have := SZ.out; omega)
        have p2 := P2.out.on hb2 (by have := SZ.out; omega)
        have hbn := via HB.out hb2
        have szn : (w.heap.size + 1 + 1) < w4.heap.size := by have := hb2.size; have := SZ.out; omega
        clear HB SZ hb2 P0 P1 P2
        have HB := Lib.hid hbn; have SZ := Lib.hid szn; have P0 := Lib.hid p0; have P1 := Lib.hid p1; have P2 := Lib.hid p2
        clear hbn szn p0 p1 p2
        obtain ⟨a00, a01, a02, a03⟩ := P0.out
        obtain ⟨a10, a11, a12, a13⟩ := P1.out
        obtain ⟨a20, a21, a22, a23⟩ := P2.out
        have m1 : w.heap.size < w4.heap.size := by have := SZ.out; omega
        have m2 : w.heap.size ≠ w4.heap.size := by omega
        have m3 : w.heap.size ≠ w4.heap.size + 1 := by omega
        by_cases k1 : C ≤ c
        · skip
          by_cases k2 : c ≤ D
          · skip
            by_cases k3 : R ≤ r
            · skip
              by_cases k4 : r ≤ S
              · go_wp2
                refine bodyPost_ret (v := .bool true) (by simp [results, Tryd.results22, go_sem, *]) rfl ⟨?_, ?_⟩
                · first | rfl | (simp; done) | (simp; omega)
                · have hB := HB.out
                  have hs := hB.size
                  (repeat' first | exact Below.refl _ _ | assumption | refine Below.drew ?_ | refine Below.alloc ?_ ?_ _ | refine Below.setCell ?_ ?_ _ | refine below_drewN ?_ _ | (simp; done) | omega | (simp; omega))
              · go_wp2
                refine bodyPost_ret (v := .bool false) (by simp [results, Tryd.results22, go_sem, *]) rfl ⟨?_, ?_⟩
                · first | rfl | (simp; done) | (simp; omega)
                · have hB := HB.out
                  have hs := hB.size
                  (repeat' first | exact Below.refl _ _ | assumption | refine Below.drew ?_ | refine Below.alloc ?_ ?_ _ | refine Below.setCell ?_ ?_ _ | refine below_drewN ?_ _ | (simp; done) | omega | (simp; omega))
            · go_wp2
              refine bodyPost_ret (v := .bool false) (by simp [results, Tryd.results22, go_sem, *]) rfl ⟨?_, ?_⟩
              · first | rfl | (simp; done) | (simp; omega)
              · have hB := HB.out
                have hs := hB.size
                (repeat' first | exact Below.refl _ _ | assumption | refine Below.drew ?_ | refine Below.alloc ?_ ?_ _ | refine Below.setCell ?_ ?_ _ | refine below_drewN ?_ _ | (simp; done) | omega | (simp; omega))
          · go_wp2
            refine bodyPost_ret (v := .bool false) (by simp [results, Tryd.results22, go_sem, *]) rfl ⟨?_, ?_⟩
            · first | rfl | (simp; done) | (simp; omega)
            · have hB := HB.out
              have hs := hB.size
              (repeat' first | exact Below.refl _ _ | assumption | refine Below.drew ?_ | refine Below.alloc ?_ ?_ _ | refine Below.setCell ?_ ?_ _ | refine below_drewN ?_ _ | (simp; done) | omega | (simp; omega))
        · go_wp2
          refine bodyPost_ret (v := .bool false) (by simp [results, Tryd.results22, go_sem, *]) rfl ⟨?_, ?_⟩
          · first | rfl | (simp; done) | (simp; omega)
          · have hB := HB.out
            have hs := hB.size
            (repeat' first | exact Below.refl _ _ | assumption | refine Below.drew ?_ | refine Below.alloc ?_ ?_ _ | refine Below.setCell ?_ ?_ _ | refine below_drewN ?_ _ | (simp; done) | omega | (simp; omega))
      · rw [Bool.not_eq_true] at g2
        rw [g2] at R2
        have hv : insV c r d s p q = false := by unfold insV; rw [g0, g1, g2]; simp
        rw [hv]
        clear hv g0 g1 g2
        go_enter Tryd.func22, Tryd.ntmps22
        go_wp2_with fail
        refine (R0.out _).mono ?_
        rintro en w5 ⟨rfl, hb2⟩
        clear hW a00 a01 a02 a03 a10 a11 a12 a13 a20 a21 a22 a23
        have p0 := P0.out.on hb2 (by have := SZ.out; omega)
        have p1 := P1.out.on hb2 (by have := SZ.out; omega)
        have p2 := P2.out.on hb2 (by have := SZ.out; omega)
        have hbn := via HB.out hb2
        have szn : (w.heap.size + 1 + 1) < w5.heap.size := by have := hb2.size; have := SZ.out; omega
        clear HB SZ hb2 P0 P1 P2
        have HB := Lib.hid hbn; have SZ := Lib.hid szn; have P0 := Lib.hid p0; have P1 := Lib.hid p1; have P2 := Lib.hid p2
        clear hbn szn p0 p1 p2
        obtain ⟨a00, a01, a02, a03⟩ := P0.out
        obtain ⟨a10, a11, a12, a13⟩ := P1.out
        obtain ⟨a20, a21, a22, a23⟩ := P2.out
        go_wp2_with fail
        refine (R1.out _).mono ?_
        rintro en w6 ⟨rfl, hb2⟩
        clear a00 a01 a02 a03 a10 a11 a12 a13 a20 a21 a22 a23
        have p0 := P0.out.on hb2 (by have := SZ.out; omega)
        have p1 := P1.out.on hb2 (by have := SZ.out; omega)
        have p2 := P2.out.on hb2 (by have := SZ.out; omega)
        have hbn := via HB.out hb2
        have szn : (w.heap.size + 1 + 1) < w6.heap.size := by have := hb2.size; have := SZ.out; omega
        clear HB SZ hb2 P0 P1 P2
        have HB := Lib.hid hbn; have SZ := Lib.hid szn; have P0 := Lib.hid p0; have P1 := Lib.hid p1; have P2 := Lib.hid p2
        clear hbn szn p0 p1 p2
        obtain ⟨a00, a01, a02, a03⟩ := P0.out
        obtain ⟨a10, a11, a12, a13⟩ := P1.out
        obtain ⟨a20, a21, a22, a23⟩ := P2.out
        go_wp2_with fail
        refine (R2.out _).mono ?_
        rintro en w7 ⟨rfl, hb2⟩
        clear a00 a01 a02 a03 a10 a11 a12 a13 a20 a21 a22 a23
        have p0 := P0.out.on hb2 (by have := SZ.out; omega)
        have p1 := P1.out.on hb2 (by have := SZ.out; omega)
        have p2 := P2.out.on hb2 (by have := SZ.out; omega)
        have hbn := via HB.out hb2
        have szn : (w.heap.size + 1 + 1) < w7.heap.size := by have := hb2.size; have := SZ.out; omega
        clear HB SZ hb2 P0 P1 P2
        have HB := Lib.hid hbn; have SZ := Lib.hid szn; have P0 := Lib.hid p0; have P1 := Lib.hid p1; have P2 := Lib.hid p2
        clear hbn szn p0 p1 p2
        obtain ⟨a00, a01, a02, a03⟩ := P0.out
        obtain ⟨a10, a11, a12, a13⟩ := P1.out
        obtain ⟨a20, a21, a22, a23⟩ := P2.out
        go_wp2
        go_ret
        have hB := HB.out
        have hs := hB.size
        exact ⟨rfl, by (repeat' first | exact Below.refl _ _ | assumption | refine Below.drew ?_ | refine Below.alloc ?_ ?_ _ | refine Below.setCell ?_ ?_ _ | refine below_drewN ?_ _ | (simp; done) | omega | (simp; omega))⟩
    · rw [Bool.not_eq_true] at g1
      rw [g1] at R1
      have hv : insV c r d s p q = false := by unfold insV; rw [g0, g1]; simp
      rw [hv]
      clear hv g0 g1
      go_enter Tryd.func22, Tryd.ntmps22
      go_wp2_with fail
      refine (R0.out _).mono ?_
      rintro en w8 ⟨rfl, hb2⟩
      clear hW a00 a01 a02 a03 a10 a11 a12 a13 a20 a21 a22 a23
      have p0 := P0.out.on hb2 (by have := SZ.out; omega)
      have p1 := P1.out.on hb2 (by have := SZ.out; omega)
      have p2 := P2.out.on hb2 (by have := SZ.out; omega)
      have hbn := via HB.out hb2
      have szn : (w.heap.size + 1 + 1) < w8.heap.size := by have := hb2.size; have := SZ.out; omega
      clear HB SZ hb2 P0 P1 P2
      have HB := Lib.hid hbn; have SZ := Lib.hid szn; have P0 := Lib.hid p0; have P1 := Lib.hid p1; have P2 := Lib.hid p2
      clear hbn szn p0 p1 p2
      obtain ⟨a00, a01, a02, a03⟩ := P0.out
      obtain ⟨a10, a11, a12, a13⟩ := P1.out
      obtain ⟨a20, a21, a22, a23⟩ := P2.out
      go_wp2_with fail
      refine (R1.out _).mono ?_
      rintro en w9 ⟨rfl, hb2⟩
      clear a00 a01 a02 a03 a10 a11 a12 a13 a20 a21 a22 a23
      have p0 := P0.out.on hb2 (by have := SZ.out; omega)
      have p1 := P1.out.on hb2 (by have := SZ.out; omega)
      have p2 := P2.out.on hb2 (by have := SZ.out; omega)
      have hbn := via HB.out hb2
      have szn : (w.heap.size + 1 + 1) < w9.heap.size := by have := hb2.size; have := SZ.out; omega
      clear HB SZ hb2 P0 P1 P2
      have HB := Lib.hid hbn; have SZ := Lib.hid szn; have P0 := Lib.hid p0; have P1 := Lib.hid p1; have P2 := Lib.hid p2
      clear hbn szn p0 p1 p2
      obtain ⟨a00, a01, a02, a03⟩ := P0.out
      obtain ⟨a10, a11, a12, a13⟩ := P1.out
      obtain ⟨a20, a21, a22, a23⟩ := P2.out
      go_wp2
      go_ret
      have hB := HB.out
      have hs := hB.size
      exact ⟨rfl, by (repeat' first | exact Below.refl _ _ | assumption | refine Below.drew ?_ | refine Below.alloc ?_ ?_ _ | refine Below.setCell ?_ ?_ _ | refine below_drewN ?_ _ | (simp; done) | omega | (simp; omega))⟩
  · rw [Bool.not_eq_true] at g0
    rw [g0] at R0
    have hv : insV c r d s p q = false := by unfold insV; rw [g0]; simp
    rw [hv]
    clear hv g0
    go_enter Tryd.func22, Tryd.ntmps22
    go_wp2_with fail
    refine (R0.out _).mono ?_
    rintro en w10 ⟨rfl, hb2⟩
    clear hW a00 a01 a02 a03 a10 a11 a12 a13 a20 a21 a22 a23
    have p0 := P0.out.on hb2 (by have := SZ.out; omega)
    have p1 := P1.out.on hb2 (by have := SZ.out; omega)
    have p2 := P2.out.on hb2 (by have := SZ.out; omega)
    have hbn := via HB.out hb2
    have szn : (w.heap.size + 1 + 1) < w10.heap.size := by have := hb2.size; have := SZ.out; omega
    clear HB SZ hb2 P0 P1 P2
    have HB := Lib.hid hbn; have SZ := Lib.hid szn; have P0 := Lib.hid p0; have P1 := Lib.hid p1; have P2 := Lib.hid p2
    clear hbn szn p0 p1 p2
    obtain ⟨a00, a01, a02, a03⟩ := P0.out
    obtain ⟨a10, a11, a12, a13⟩ := P1.out
    obtain ⟨a20, a21, a22, a23⟩ := P2.out
    go_wp2
    go_ret
    have hB := HB.out
    have hs := hB.size
    exact ⟨rfl, by (repeat' first | exact Below.refl _ _ | assumption | refine Below.drew ?_ | refine Below.alloc ?_ ?_ _ | refine Below.setCell ?_ ?_ _ | refine below_drewN ?_ _ | (simp; done) | omega | (simp; omega))⟩
set_option maxHeartbeats 2000000 in
theorem rinside_any (c r d s p q : Int) (x y u v o m : Bool) (w : World) :
    Calls Tryd.prog 23 #[(Value.agg #[Value.int .i64 (c), Value.int .i64 (r), Value.bool x, Value.bool y]), (Value.agg #[Value.int .i64 (d), Value.int .i64 (s), Value.bool u, Value.bool v]), (Value.agg #[Value.int .i64 (p), Value.int .i64 (q), Value.bool o, Value.bool m])] w fun e w' => e = .returned (.bool (insV c r d s p q)) ∧ Below w.heap.size w w' := by
  obtain ⟨W, hW, p0, p1, p2, hb, sz⟩ := bx3 w c r d s p q x y u v o m
  have P0 := Lib.hid p0; have P1 := Lib.hid p1; have P2 := Lib.hid p2; have HB := Lib.hid hb; have SZ := Lib.hid sz
  clear p0 p1 p2 hb sz
  have R0 := Lib.hid (fun W => rright_any c r x y W)
  have R1 := Lib.hid (fun W => rright_any d s u v W)
  have R2 := Lib.hid (fun W => rright_any p q o m W)
  obtain ⟨a00, a01, a02, a03⟩ := P0.out
  obtain ⟨a10, a11, a12, a13⟩ := P1.out
  obtain ⟨a20, a21, a22, a23⟩ := P2.out
  by_cases g0 : rgt c r = true
  · rw [g0] at R0
    by_cases g1 : rgt d s = true
    · rw [g1] at R1
      by_cases g2 : rgt p q = true
      · rw [g2] at R2
        unfold insV
        rw [g0, g1, g2]
        generalize hC : min d p = C at *
        generalize hD : max d p = D at *
        generalize hR : min s q = R at *
        generalize hS : max s q = S at *
        clear g0 g1 g2
        go_enter Tryd.func23, Tryd.ntmps23
        go_wp2_with fail
        refine (R0.out _).mono ?_
        rintro en w1 ⟨rfl, hb2⟩
        clear hW a00 a01 a02 a03 a10 a11 a12 a13 a20 a21 a22 a23
        have p0 := P0.out.on hb2 (by have := SZ.out; omega)
        have p1 := P1.out.on hb2 (by have := SZ.out; omega)
        have p2 := P2.out.on hb2 (by have := SZ.out; omega)
        have hbn := via HB.out hb2
        have szn : (w.heap.size + 1 + 1) < w1.heap.size := by have := hb2.size; have := SZ.out; omega
        clear HB SZ hb2 P0 P1 P2
        have HB := Lib.hid hbn; have SZ := Lib.hid szn; have P0 := Lib.hid p0; have P1 := Lib.hid p1; have P2 := Lib.hid p2
        clear hbn szn p0 p1 p2
        obtain ⟨a00, a01, a02, a03⟩ := P0.out
        obtain ⟨a10, a11, a12, a13⟩ := P1.out
        obtain ⟨a20, a21, a22, a23⟩ := P2.out
        go_wp2_with fail
        refine (R1.out _).mono ?_
        rintro en w2 ⟨rfl, hb2⟩
        clear a00 a01 a02 a03 a10 a11 a12 a13 a20 a21 a22 a23
        have p0 := P0.out.on hb2 (by have := SZ.out; omega)
        have p1 := P1.out.on hb2 (by have := SZ.out; omega)
        have p2 := P2.out.on hb2 (by have := SZ.out; omega)
        have hbn := via HB.out hb2
        have szn : (w.heap.size + 1 + 1) < w2.heap.size := by have := hb2.size; have := SZ.out; omega
        clear HB SZ hb2 P0 P1 P2
        have HB := Lib.hid hbn; have SZ := Lib.hid szn; have P0 := Lib.hid p0; have P1 := Lib.hid p1; have P2 := Lib.hid p2
        clear hbn szn p0 p1 p2
        obtain ⟨a00, a01, a02, a03⟩ := P0.out
        obtain ⟨a10, a11, a12, a13⟩ := P1.out
        obtain ⟨a20, a21, a22, a23⟩ := P2.out
        go_wp2_with fail
        refine (R2.out _).mono ?_
        rintro en w3 ⟨rfl, hb2⟩
        clear a00 a01 a02 a03 a10 a11 a12 a13 a20 a21 a22 a23
        have p0 := P0.out.on hb2 (by have := SZ.out; omega)
        have p1 := P1.out.on hb2 (by have := SZ.out; omega)
        have p2 := P2.out.on hb2 (by have := SZ.out; omega)
        have hbn := via HB.out hb2
        have szn : (w.heap.size + 1 + 1) < w3.heap.size := by have := hb2.size; have := SZ.out; omega
        clear HB SZ hb2 P0 P1 P2
        have HB := Lib.hid hbn; have SZ := Lib.hid szn; have P0 := Lib.hid p0; have P1 := Lib.hid p1; have P2 := Lib.hid p2
        clear hbn szn p0 p1 p2
        obtain ⟨a00, a01, a02, a03⟩ := P0.out
        obtain ⟨a10, a11, a12, a13⟩ := P1.out
        obtain ⟨a20, a21, a22, a23⟩ := P2.out
        by_cases k1 : C ≤ c
        · skip
          by_cases k2 : c ≤ D
          · skip
            by_cases k3 : R ≤ r
            · skip
              by_cases k4 : r ≤ S
              · go_wp2
                refine bodyPost_ret (v := .bool true) (by simp [results, Tryd.results23, go_sem, *]) rfl ⟨?_, ?_⟩
                · first | rfl | (simp; done) | (simp; omega)
                · have hB := HB.out
                  have hs := hB.size
                  (repeat' first | exact Below.refl _ _ | assumption | refine Below.drew ?_ | refine Below.alloc ?_ ?_ _ | refine Below.setCell ?_ ?_ _ | refine below_drewN ?_ _ | (simp; done) | omega | (simp; omega))
              · go_wp2
                refine bodyPost_ret (v := .bool false) (by simp [results, Tryd.results23, go_sem, *]) rfl ⟨?_, ?_⟩
                · first | rfl | (simp; done) | (simp; omega)
                · have hB := HB.out
                  have hs := hB.size
                  (repeat' first | exact Below.refl _ _ | assumption | refine Below.drew ?_ | refine Below.alloc ?_ ?_ _ | refine Below.setCell ?_ ?_ _ | refine below_drewN ?_ _ | (simp; done) | omega | (simp; omega))
            · go_wp2
              refine bodyPost_ret (v := .bool false) (by simp [results, Tryd.results23, go_sem, *]) rfl ⟨?_, ?_⟩
              · first | rfl | (simp; done) | (simp; omega)
              · have hB := HB.out
                have hs := hB.size
                (repeat' first | exact Below.refl _ _ | assumption | refine Below.drew ?_ | refine Below.alloc ?_ ?_ _ | refine Below.setCell ?_ ?_ _ | refine below_drewN ?_ _ | (simp; done) | omega | (simp; omega))
          · go_wp2
            refine bodyPost_ret (v := .bool false) (by simp [results, Tryd.results23, go_sem, *]) rfl ⟨?_, ?_⟩
            · first | rfl | (simp; done) | (simp; omega)
            · have hB := HB.out
              have hs := hB.size
              (repeat' first | exact Below.refl _ _ | assumption | refine Below.drew ?_ | refine Below.alloc ?_ ?_ _ | refine Below.setCell ?_ ?_ _ | refine below_drewN ?_ _ | (simp; done) | omega | (simp; omega))
        · go_wp2
          refine bodyPost_ret (v := .bool false) (by simp [results, Tryd.results23, go_sem, *]) rfl ⟨?_, ?_⟩
          · first | rfl | (simp; done) | (simp; omega)
          · have hB := HB.out
            have hs := hB.size
            (repeat' first | exact Below.refl _ _ | assumption | refine Below.drew ?_ | refine Below.alloc ?_ ?_ _ | refine Below.setCell ?_ ?_ _ | refine below_drewN ?_ _ | (simp; done) | omega | (simp; omega))
      · rw [Bool.not_eq_true] at g2
        rw [g2] at R2
        have hv : insV c r d s p q = false := by unfold insV; rw [g0, g1, g2]; simp
        rw [hv]
        clear hv g0 g1 g2
        go_enter Tryd.func23, Tryd.ntmps23
        go_wp2_with fail
        refine (R0.out _).mono ?_
        rintro en w4 ⟨rfl, hb2⟩
        clear hW a00 a01 a02 a03 a10 a11 a12 a13 a20 a21 a22 a23
        have p0 := P0.out.on hb2 (by have := SZ.out; omega)
        have p1 := P1.out.on hb2 (by have := SZ.out; omega)
        have p2 := P2.out.on hb2 (by have := SZ.out; omega)
        have hbn := via HB.out hb2
        have szn : (w.heap.size + 1 + 1) < w4.heap.size := by have := hb2.size; have := SZ.out; omega
        clear HB SZ hb2 P0 P1 P2
        have HB := Lib.hid hbn; have SZ := Lib.hid szn; have P0 := Lib.hid p0; have P1 := Lib.hid p1; have P2 := Lib.hid p2
        clear hbn szn p0 p1 p2
        obtain ⟨a00, a01, a02, a03⟩ := P0.out
        obtain ⟨a10, a11, a12, a13⟩ := P1.out
        obtain ⟨a20, a21, a22, a23⟩ := P2.out
        go_wp2_with fail
        refine (R1.out _).mono ?_
        rintro en w5 ⟨rfl, hb2⟩
        clear a00 a01 a02 a03 a10 a11 a12 a13 a20 a21 a22 a23
        have p0 := P0.out.on hb2 (by have := SZ.out; omega)
        have p1 := P1.out.on hb2 (by have := SZ.out; omega)
        have p2 := P2.out.on hb2 (by have := SZ.out; omega)
        have hbn := via HB.out hb2
        have szn : (w.heap.size + 1 + 1) < w5.heap.size := by have := hb2.size; have := SZ.out; omega
        clear HB SZ hb2 P0 P1 P2
        have HB := Lib.hid hbn; have SZ := Lib.hid szn; have P0 := Lib.hid p0; have P1 := Lib.hid p1; have P2 := Lib.hid p2
        clear hbn szn p0 p1 p2
        obtain ⟨a00, a01, a02, a03⟩ := P0.out
        obtain ⟨a10, a11, a12, a13⟩ := P1.out
        obtain ⟨a20, a21, a22, a23⟩ := P2.out
        go_wp2_with fail
        refine (R2.out _).mono ?_
        rintro en w6 ⟨rfl, hb2⟩
        clear a00 a01 a02 a03 a10 a11 a12 a13 a20 a21 a22 a23
        have p0 := P0.out.on hb2 (by have := SZ.out; omega)
        have p1 := P1.out.on hb2 (by have := SZ.out; omega)
        have p2 := P2.out.on hb2 (by have := SZ.out; omega)
        have hbn := via HB.out hb2
        have szn : (w.heap.size + 1 + 1) < w6.heap.size := by have := hb2.size; have := SZ.out; omega
        clear HB SZ hb2 P0 P1 P2
        have HB := Lib.hid hbn; have SZ := Lib.hid szn; have P0 := Lib.hid p0; have P1 := Lib.hid p1; have P2 := Lib.hid p2
        clear hbn szn p0 p1 p2
        obtain ⟨a00, a01, a02, a03⟩ := P0.out
        obtain ⟨a10, a11, a12, a13⟩ := P1.out
        obtain ⟨a20, a21, a22, a23⟩ := P2.out
        go_wp2
        go_ret
        have hB := HB.out
        have hs := hB.size
        exact ⟨rfl, by (repeat' first | exact Below.refl _ _ | assumption | refine Below.drew ?_ | refine Below.alloc ?_ ?_ _ | refine Below.setCell ?_ ?_ _ | refine below_drewN ?_ _ | (simp; done) | omega | (simp; omega))⟩
    · rw [Bool.not_eq_true] at g1
      rw [g1] at R1
      have hv : insV c r d s p q = false := by unfold insV; rw [g0, g1]; simp
      rw [hv]
      clear hv g0 g1
      go_enter Tryd.func23, Tryd.ntmps23
      go_wp2_with fail
      refine (R0.out _).mono ?_
      rintro en w7 ⟨rfl, hb2⟩
      clear hW a00 a01 a02 a03 a10 a11 a12 a13 a20 a21 a22 a23
      have p0 := P0.out.on hb2 (by have := SZ.out; omega)
      have p1 := P1.out.on hb2 (by have := SZ.out; omega)
      have p2 := P2.out.on hb2 (by have := SZ.out; omega)
      have hbn := via HB.out hb2
      have szn : (w.heap.size + 1 + 1) < w7.heap.size := by have := hb2.size; have := SZ.out; omega
      clear HB SZ hb2 P0 P1 P2
      have HB := Lib.hid hbn; have SZ := Lib.hid szn; have P0 := Lib.hid p0; have P1 := Lib.hid p1; have P2 := Lib.hid p2
      clear hbn szn p0 p1 p2
      obtain ⟨a00, a01, a02, a03⟩ := P0.out
      obtain ⟨a10, a11, a12, a13⟩ := P1.out
      obtain ⟨a20, a21, a22, a23⟩ := P2.out
      go_wp2_with fail
      refine (R1.out _).mono ?_
      rintro en w8 ⟨rfl, hb2⟩
      clear a00 a01 a02 a03 a10 a11 a12 a13 a20 a21 a22 a23
      have p0 := P0.out.on hb2 (by have := SZ.out; omega)
      have p1 := P1.out.on hb2 (by have := SZ.out; omega)
      have p2 := P2.out.on hb2 (by have := SZ.out; omega)
      have hbn := via HB.out hb2
      have szn : (w.heap.size + 1 + 1) < w8.heap.size := by have := hb2.size; have := SZ.out; omega
      clear HB SZ hb2 P0 P1 P2
      have HB := Lib.hid hbn; have SZ := Lib.hid szn; have P0 := Lib.hid p0; have P1 := Lib.hid p1; have P2 := Lib.hid p2
      clear hbn szn p0 p1 p2
      obtain ⟨a00, a01, a02, a03⟩ := P0.out
      obtain ⟨a10, a11, a12, a13⟩ := P1.out
      obtain ⟨a20, a21, a22, a23⟩ := P2.out
      go_wp2_with fail
      refine (R2.out _).mono ?_
      rintro en w9 ⟨rfl, hb2⟩
      clear a00 a01 a02 a03 a10 a11 a12 a13 a20 a21 a22 a23
      have p0 := P0.out.on hb2 (by have := SZ.out; omega)
      have p1 := P1.out.on hb2 (by have := SZ.out; omega)
      have p2 := P2.out.on hb2 (by have := SZ.out; omega)
      have hbn := via HB.out hb2
      have szn : (w.heap.size + 1 + 1) < w9.heap.size := by have := hb2.size; have := SZ.out; omega
      clear HB SZ hb2 P0 P1 P2
      have HB := Lib.hid hbn; have SZ := Lib.hid szn; have P0 := Lib.hid p0; have P1 := Lib.hid p1; have P2 := Lib.hid p2
      clear hbn szn p0 p1 p2
      obtain ⟨a00, a01, a02, a03⟩ := P0.out
      obtain ⟨a10, a11, a12, a13⟩ := P1.out
      obtain ⟨a20, a21, a22, a23⟩ := P2.out
      go_wp2
      go_ret
      have hB := HB.out
      have hs := hB.size
      exact ⟨rfl, by (repeat' first | exact Below.refl _ _ | assumption | refine Below.drew ?_ | refine Below.alloc ?_ ?_ _ | refine Below.setCell ?_ ?_ _ | refine below_drewN ?_ _ | (simp; done) | omega | (simp; omega))⟩
  · rw [Bool.not_eq_true] at g0
    rw [g0] at R0
    have hv : insV c r d s p q = false := by unfold insV; rw [g0]; simp
    rw [hv]
    clear hv g0
    go_enter Tryd.func23, Tryd.ntmps23
    go_wp2_with fail
    refine (R0.out _).mono ?_
    rintro en w10 ⟨rfl, hb2⟩
    clear hW a00 a01 a02 a03 a10 a11 a12 a13 a20 a21 a22 a23
    have p0 := P0.out.on hb2 (by have := SZ.out; omega)
    have p1 := P1.out.on hb2 (by have := SZ.out; omega)
    have p2 := P2.out.on hb2 (by have := SZ.out; omega)
    have hbn := via HB.out hb2
    have szn : (w.heap.size + 1 + 1) < w10.heap.size := by have := hb2.size; have := SZ.out; omega
    clear HB SZ hb2 P0 P1 P2
    have HB := Lib.hid hbn; have SZ := Lib.hid szn; have P0 := Lib.hid p0; have P1 := Lib.hid p1; have P2 := Lib.hid p2
    clear hbn szn p0 p1 p2
    obtain ⟨a00, a01, a02, a03⟩ := P0.out
    obtain ⟨a10, a11, a12, a13⟩ := P1.out
    obtain ⟨a20, a21, a22, a23⟩ := P2.out
    go_wp2_with fail
    refine (R1.out _).mono ?_
    rintro en w11 ⟨rfl, hb2⟩
    clear a00 a01 a02 a03 a10 a11 a12 a13 a20 a21 a22 a23
    have p0 := P0.out.on hb2 (by have := SZ.out; omega)
    have p1 := P1.out.on hb2 (by have := SZ.out; omega)
    have p2 := P2.out.on hb2 (by have := SZ.out; omega)
    have hbn := via HB.out hb2
    have szn : (w.heap.size + 1 + 1) < w11.heap.size := by have := hb2.size; have := SZ.out; omega
    clear HB SZ hb2 P0 P1 P2
    have HB := Lib.hid hbn; have SZ := Lib.hid szn; have P0 := Lib.hid p0; have P1 := Lib.hid p1; have P2 := Lib.hid p2
    clear hbn szn p0 p1 p2
    obtain ⟨a00, a01, a02, a03⟩ := P0.out
    obtain ⟨a10, a11, a12, a13⟩ := P1.out
    obtain ⟨a20, a21, a22, a23⟩ := P2.out
    go_wp2_with fail
    refine (R2.out _).mono ?_
    rintro en w12 ⟨rfl, hb2⟩
    clear a00 a01 a02 a03 a10 a11 a12 a13 a20 a21 a22 a23
    have p0 := P0.out.on hb2 (by have := SZ.out; omega)
    have p1 := P1.out.on hb2 (by have := SZ.out; omega)
    have p2 := P2.out.on hb2 (by have := SZ.out; omega)
    have hbn := via HB.out hb2
    have szn : (w.heap.size + 1 + 1) < w12.heap.size := by have := hb2.size; have := SZ.out; omega
    clear HB SZ hb2 P0 P1 P2
    have HB := Lib.hid hbn; have SZ := Lib.hid szn; have P0 := Lib.hid p0; have P1 := Lib.hid p1; have P2 := Lib.hid p2
    clear hbn szn p0 p1 p2
    obtain ⟨a00, a01, a02, a03⟩ := P0.out
    obtain ⟨a10, a11, a12, a13⟩ := P1.out
    obtain ⟨a20, a21, a22, a23⟩ := P2.out
    go_wp2
    go_ret
    have hB := HB.out
    have hs := hB.size
    exact ⟨rfl, by (repeat' first | exact Below.refl _ _ | assumption | refine Below.drew ?_ | refine Below.alloc ?_ ?_ _ | refine Below.setCell ?_ ?_ _ | refine below_drewN ?_ _ | (simp; done) | omega | (simp; omega))⟩
end Go.Proofs.YtikcggbkkgipoaaDoor
