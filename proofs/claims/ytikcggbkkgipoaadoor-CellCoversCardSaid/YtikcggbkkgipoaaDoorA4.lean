/-
  Package cell: Moved: walked.
-/
import Derived.Test.YtikcggbkkgipoaaDoorA3
namespace Go.Proofs.YtikcggbkkgipoaaDoor
open Go.RowKit Go.Shelf

def mvw (a d : Int) (fix : Bool) : Int := if fix = true then a else IntKind.i64.wrap (a + d)
theorem mvw_part {a d n : Int} {fix : Bool} (a0 : 0 ≤ a) (a1 : a < n) (n1 : n ≤ 1000) (d0 : -9223372036854775808 ≤ d) (d1 : d ≤ 9223372036854775807) :
    (0 ≤ mvw a d fix ∧ mvw a d fix < n → mvw a d fix = mvd a d fix n) ∧ (¬ (0 ≤ mvw a d fix ∧ mvw a d fix < n) → mvd a d fix n = -1) := by
  unfold mvw mvd
  cases fix
  · rw [if_neg (by simp), if_neg (by simp), IntKind.wrap_i64]
    constructor
    · intro h
      rw [if_pos (by omega)]
      omega
    · intro h
      rw [if_neg (by omega)]
  · rw [if_pos rfl, if_pos rfl]
    exact ⟨fun _ => rfl, fun h => absurd ⟨a0, a1⟩ h⟩
theorem mvw_rgt {c r d e : Int} {x y : Bool} (g : rgt c r = true) (d0 : -9223372036854775808 ≤ d) (d1 : d ≤ 9223372036854775807) (e0 : -9223372036854775808 ≤ e) (e1 : e ≤ 9223372036854775807) :
    rgt (mvw c d x) (mvw r e y) = rgt (mvd c d x 64) (mvd r e y 1000) ∧ (rgt (mvw c d x) (mvw r e y) = true → mvw c d x = mvd c d x 64 ∧ mvw r e y = mvd r e y 1000) := by
  obtain ⟨c0, c1, r0, r1⟩ := rgt_iff.1 g
  obtain ⟨p1, p2⟩ := mvw_part (fix := x) c0 c1 (by omega) d0 d1
  obtain ⟨q1, q2⟩ := mvw_part (fix := y) r0 r1 (by omega) e0 e1
  refine ⟨?_, fun h => ?_⟩
  · by_cases h1 : 0 ≤ mvw c d x ∧ mvw c d x < 64
    · by_cases h2 : 0 ≤ mvw r e y ∧ mvw r e y < 1000
      · rw [p1 h1, q1 h2]
      · rw [rgt_f (fun h => h2 h.2.2), rgt_f (fun h => by have := q2 h2; omega)]
    · rw [rgt_f (fun h => h1 ⟨h.1, h.2.1⟩), rgt_f (fun h => by have := p2 h1; omega)]
  · obtain ⟨h1, h2, h3, h4⟩ := rgt_iff.1 h
    exact ⟨p1 ⟨h1, h2⟩, q1 ⟨h3, h4⟩⟩
set_option maxHeartbeats 16000000 in
theorem moved_ff (c r d e C R : Int) (k : Bool) (g : rgt c r = true) (hC : IntKind.i64.wrap (c + d) = C) (hR : IntKind.i64.wrap (r + e) = R) (hk : rgt C R = k) (w : World) :
    Calls Tryd.prog 27 #[(Value.agg #[Value.int .i64 (c), Value.int .i64 (r), Value.bool false, Value.bool false]), .int .i64 d, .int .i64 e] w fun en w' => en = .returned (.tuple #[if k = true then (Value.agg #[Value.int .i64 (C), Value.int .i64 (R), Value.bool false, Value.bool false]) else (Value.agg #[Value.int .i64 (0), Value.int .i64 (0), Value.bool false, Value.bool false]), .bool k]) ∧ Below w.heap.size w w' := by
  obtain ⟨W, hW, p0, p1, hb, sz⟩ := boxes2 w c r false false
  have P0 := Lib.hid p0; have P1 := Lib.hid p1; have HB := Lib.hid hb
  have SZ := Lib.hid sz
  clear p0 p1 hb sz
  have R1 := Lib.hid (fun W => right_any c r false false W)
  rw [g] at R1
  have R2 := Lib.hid (fun W => right_any C R false false W)
  rw [hk] at R2
  clear g hk
  obtain ⟨a0, a1, a2, a3⟩ := P0.out.b
  go_enter Tryd.func27, Tryd.ntmps27
  go_wp2_with fail
  refine (R1.out _).mono ?_
  rintro en w2 ⟨rfl, hb2⟩
  clear hW a0 a1 a2 a3
  have p0 := P0.out.on hb2 (by have := SZ.out; omega)
  have p1 := P1.out.on hb2 SZ.out
  obtain ⟨⟨a0, a1, a2, a3⟩, f0⟩ := p0
  have f00 := f0 0
  have f01 := f0 1
  have q0 := (((P0.out.on hb2 (by have := SZ.out; omega)).setc C).setr R)
  have q1 := ((p1.other (o := 0) (v := .int .i64 C) (B' := w.heap.size) (by omega)).other (o := 1) (v := .int .i64 R) (B' := w.heap.size) (by omega))
  have hb3 : Below w.heap.size w ((w2.setCell ⟨w.heap.size, 0, none⟩ (.int .i64 C)).setCell ⟨w.heap.size, 1, none⟩ (.int .i64 R)) := (((via HB.out hb2).setCell (Nat.le_refl _) _).setCell (Nat.le_refl _) _)
  have sz3 : w.heap.size + 1 < ((w2.setCell ⟨w.heap.size, 0, none⟩ (.int .i64 C)).setCell ⟨w.heap.size, 1, none⟩ (.int .i64 R)).heap.size := by have := hb2.size; have := SZ.out; simp [World.setCell]; omega
  have Q0 := Lib.hid q0; have Q1 := Lib.hid q1; have HB3 := Lib.hid hb3; have SZ3 := Lib.hid sz3
  clear q0 q1 hb3 sz3 p1 f0 P0 P1 HB SZ
  go_wp2_with fail
  refine (R2.out _).mono ?_
  rintro en w4 ⟨rfl, hb4⟩
  clear a0 a1 a2 a3 f00 f01 hb2
  obtain ⟨⟨a0, a1, a2, a3⟩, _⟩ := Q0.out.on hb4 (by have := SZ3.out; omega)
  obtain ⟨⟨a4, a5, a6, a7⟩, f1⟩ := Q1.out.on hb4 SZ3.out
  have g0 := f1 0; have g1 := f1 1; have g2 := f1 2; have g3 := f1 3
  have HB4 := Lib.hid (via HB3.out hb4)
  have n1 : w.heap.size + 1 ≠ w.heap.size := by omega
  clear f1 hb4 Q0 Q1 SZ3
  cases k
  · go_wp2
    refine bodyPost_ret (v := .tuple #[(Value.agg #[Value.int .i64 (0), Value.int .i64 (0), Value.bool false, Value.bool false]), .bool false]) (by simp [results, Tryd.results27, go_sem, *]) rfl ⟨rfl, ?_⟩
    have hB := HB4.out
    (repeat' first | exact Below.refl _ _ | assumption | refine Below.drew ?_ | refine Below.alloc ?_ ?_ _ | refine Below.setCell ?_ ?_ _ | refine below_drewN ?_ _ | (simp; done) | omega | (simp; omega))
  · go_wp2
    refine bodyPost_ret (v := .tuple #[(Value.agg #[Value.int .i64 (C), Value.int .i64 (R), Value.bool false, Value.bool false]), .bool true]) (by simp [results, Tryd.results27, go_sem, *]) rfl ⟨rfl, ?_⟩
    have hB := HB4.out
    (repeat' first | exact Below.refl _ _ | assumption | refine Below.drew ?_ | refine Below.alloc ?_ ?_ _ | refine Below.setCell ?_ ?_ _ | refine below_drewN ?_ _ | (simp; done) | omega | (simp; omega))
set_option maxHeartbeats 16000000 in
theorem moved_ft (c r d e C R : Int) (k : Bool) (g : rgt c r = true) (hC : IntKind.i64.wrap (c + d) = C) (hR : r = R) (hk : rgt C R = k) (w : World) :
    Calls Tryd.prog 27 #[(Value.agg #[Value.int .i64 (c), Value.int .i64 (r), Value.bool false, Value.bool true]), .int .i64 d, .int .i64 e] w fun en w' => en = .returned (.tuple #[if k = true then (Value.agg #[Value.int .i64 (C), Value.int .i64 (R), Value.bool false, Value.bool true]) else (Value.agg #[Value.int .i64 (0), Value.int .i64 (0), Value.bool false, Value.bool false]), .bool k]) ∧ Below w.heap.size w w' := by
  subst hR
  obtain ⟨W, hW, p0, p1, hb, sz⟩ := boxes2 w c r false true
  have P0 := Lib.hid p0; have P1 := Lib.hid p1; have HB := Lib.hid hb
  have SZ := Lib.hid sz
  clear p0 p1 hb sz
  have R1 := Lib.hid (fun W => right_any c r false true W)
  rw [g] at R1
  have R2 := Lib.hid (fun W => right_any C r false true W)
  rw [hk] at R2
  clear g hk
  obtain ⟨a0, a1, a2, a3⟩ := P0.out.b
  go_enter Tryd.func27, Tryd.ntmps27
  go_wp2_with fail
  refine (R1.out _).mono ?_
  rintro en w2 ⟨rfl, hb2⟩
  clear hW a0 a1 a2 a3
  have p0 := P0.out.on hb2 (by have := SZ.out; omega)
  have p1 := P1.out.on hb2 SZ.out
  obtain ⟨⟨a0, a1, a2, a3⟩, f0⟩ := p0
  have f00 := f0 0
  have f01 := f0 1
  have q0 := ((P0.out.on hb2 (by have := SZ.out; omega)).setc C)
  have q1 := (p1.other (o := 0) (v := .int .i64 C) (B' := w.heap.size) (by omega))
  have hb3 : Below w.heap.size w (w2.setCell ⟨w.heap.size, 0, none⟩ (.int .i64 C)) := ((via HB.out hb2).setCell (Nat.le_refl _) _)
  have sz3 : w.heap.size + 1 < (w2.setCell ⟨w.heap.size, 0, none⟩ (.int .i64 C)).heap.size := by have := hb2.size; have := SZ.out; simp [World.setCell]; omega
  have Q0 := Lib.hid q0; have Q1 := Lib.hid q1; have HB3 := Lib.hid hb3; have SZ3 := Lib.hid sz3
  clear q0 q1 hb3 sz3 p1 f0 P0 P1 HB SZ
  go_wp2_with fail
  refine (R2.out _).mono ?_
  rintro en w4 ⟨rfl, hb4⟩
  clear a0 a1 a2 a3 f00 f01 hb2
  obtain ⟨⟨a0, a1, a2, a3⟩, _⟩ := Q0.out.on hb4 (by have := SZ3.out; omega)
  obtain ⟨⟨a4, a5, a6, a7⟩, f1⟩ := Q1.out.on hb4 SZ3.out
  have g0 := f1 0; have g1 := f1 1; have g2 := f1 2; have g3 := f1 3
  have HB4 := Lib.hid (via HB3.out hb4)
  have n1 : w.heap.size + 1 ≠ w.heap.size := by omega
  clear f1 hb4 Q0 Q1 SZ3
  cases k
  · go_wp2
    refine bodyPost_ret (v := .tuple #[(Value.agg #[Value.int .i64 (0), Value.int .i64 (0), Value.bool false, Value.bool false]), .bool false]) (by simp [results, Tryd.results27, go_sem, *]) rfl ⟨rfl, ?_⟩
    have hB := HB4.out
    (repeat' first | exact Below.refl _ _ | assumption | refine Below.drew ?_ | refine Below.alloc ?_ ?_ _ | refine Below.setCell ?_ ?_ _ | refine below_drewN ?_ _ | (simp; done) | omega | (simp; omega))
  · go_wp2
    refine bodyPost_ret (v := .tuple #[(Value.agg #[Value.int .i64 (C), Value.int .i64 (r), Value.bool false, Value.bool true]), .bool true]) (by simp [results, Tryd.results27, go_sem, *]) rfl ⟨rfl, ?_⟩
    have hB := HB4.out
    (repeat' first | exact Below.refl _ _ | assumption | refine Below.drew ?_ | refine Below.alloc ?_ ?_ _ | refine Below.setCell ?_ ?_ _ | refine below_drewN ?_ _ | (simp; done) | omega | (simp; omega))
set_option maxHeartbeats 16000000 in
theorem moved_tf (c r d e C R : Int) (k : Bool) (g : rgt c r = true) (hC : c = C) (hR : IntKind.i64.wrap (r + e) = R) (hk : rgt C R = k) (w : World) :
    Calls Tryd.prog 27 #[(Value.agg #[Value.int .i64 (c), Value.int .i64 (r), Value.bool true, Value.bool false]), .int .i64 d, .int .i64 e] w fun en w' => en = .returned (.tuple #[if k = true then (Value.agg #[Value.int .i64 (C), Value.int .i64 (R), Value.bool true, Value.bool false]) else (Value.agg #[Value.int .i64 (0), Value.int .i64 (0), Value.bool false, Value.bool false]), .bool k]) ∧ Below w.heap.size w w' := by
  subst hC
  obtain ⟨W, hW, p0, p1, hb, sz⟩ := boxes2 w c r true false
  have P0 := Lib.hid p0; have P1 := Lib.hid p1; have HB := Lib.hid hb
  have SZ := Lib.hid sz
  clear p0 p1 hb sz
  have R1 := Lib.hid (fun W => right_any c r true false W)
  rw [g] at R1
  have R2 := Lib.hid (fun W => right_any c R true false W)
  rw [hk] at R2
  clear g hk
  obtain ⟨a0, a1, a2, a3⟩ := P0.out.b
  go_enter Tryd.func27, Tryd.ntmps27
  go_wp2_with fail
  refine (R1.out _).mono ?_
  rintro en w2 ⟨rfl, hb2⟩
  clear hW a0 a1 a2 a3
  have p0 := P0.out.on hb2 (by have := SZ.out; omega)
  have p1 := P1.out.on hb2 SZ.out
  obtain ⟨⟨a0, a1, a2, a3⟩, f0⟩ := p0
  have f00 := f0 0
  have f01 := f0 1
  have q0 := ((P0.out.on hb2 (by have := SZ.out; omega)).setr R)
  have q1 := (p1.other (o := 1) (v := .int .i64 R) (B' := w.heap.size) (by omega))
  have hb3 : Below w.heap.size w (w2.setCell ⟨w.heap.size, 1, none⟩ (.int .i64 R)) := ((via HB.out hb2).setCell (Nat.le_refl _) _)
  have sz3 : w.heap.size + 1 < (w2.setCell ⟨w.heap.size, 1, none⟩ (.int .i64 R)).heap.size := by have := hb2.size; have := SZ.out; simp [World.setCell]; omega
  have Q0 := Lib.hid q0; have Q1 := Lib.hid q1; have HB3 := Lib.hid hb3; have SZ3 := Lib.hid sz3
  clear q0 q1 hb3 sz3 p1 f0 P0 P1 HB SZ
  go_wp2_with fail
  refine (R2.out _).mono ?_
  rintro en w4 ⟨rfl, hb4⟩
  clear a0 a1 a2 a3 f00 f01 hb2
  obtain ⟨⟨a0, a1, a2, a3⟩, _⟩ := Q0.out.on hb4 (by have := SZ3.out; omega)
  obtain ⟨⟨a4, a5, a6, a7⟩, f1⟩ := Q1.out.on hb4 SZ3.out
  have g0 := f1 0; have g1 := f1 1; have g2 := f1 2; have g3 := f1 3
  have HB4 := Lib.hid (via HB3.out hb4)
  have n1 : w.heap.size + 1 ≠ w.heap.size := by omega
  clear f1 hb4 Q0 Q1 SZ3
  cases k
  · go_wp2
    refine bodyPost_ret (v := .tuple #[(Value.agg #[Value.int .i64 (0), Value.int .i64 (0), Value.bool false, Value.bool false]), .bool false]) (by simp [results, Tryd.results27, go_sem, *]) rfl ⟨rfl, ?_⟩
    have hB := HB4.out
    (repeat' first | exact Below.refl _ _ | assumption | refine Below.drew ?_ | refine Below.alloc ?_ ?_ _ | refine Below.setCell ?_ ?_ _ | refine below_drewN ?_ _ | (simp; done) | omega | (simp; omega))
  · go_wp2
    refine bodyPost_ret (v := .tuple #[(Value.agg #[Value.int .i64 (c), Value.int .i64 (R), Value.bool true, Value.bool false]), .bool true]) (by simp [results, Tryd.results27, go_sem, *]) rfl ⟨rfl, ?_⟩
    have hB := HB4.out
    (repeat' first | exact Below.refl _ _ | assumption | refine Below.drew ?_ | refine Below.alloc ?_ ?_ _ | refine Below.setCell ?_ ?_ _ | refine below_drewN ?_ _ | (simp; done) | omega | (simp; omega))
set_option maxHeartbeats 16000000 in
theorem moved_tt (c r d e C R : Int) (k : Bool) (g : rgt c r = true) (hC : c = C) (hR : r = R) (hk : rgt C R = k) (w : World) :
    Calls Tryd.prog 27 #[(Value.agg #[Value.int .i64 (c), Value.int .i64 (r), Value.bool true, Value.bool true]), .int .i64 d, .int .i64 e] w fun en w' => en = .returned (.tuple #[if k = true then (Value.agg #[Value.int .i64 (C), Value.int .i64 (R), Value.bool true, Value.bool true]) else (Value.agg #[Value.int .i64 (0), Value.int .i64 (0), Value.bool false, Value.bool false]), .bool k]) ∧ Below w.heap.size w w' := by
  subst hC
  subst hR
  obtain ⟨W, hW, p0, p1, hb, sz⟩ := boxes2 w c r true true
  have P0 := Lib.hid p0; have P1 := Lib.hid p1; have HB := Lib.hid hb
  have SZ := Lib.hid sz
  clear p0 p1 hb sz
  have R1 := Lib.hid (fun W => right_any c r true true W)
  rw [g] at R1
  have R2 := Lib.hid (fun W => right_any c r true true W)
  rw [hk] at R2
  clear g hk
  obtain ⟨a0, a1, a2, a3⟩ := P0.out.b
  go_enter Tryd.func27, Tryd.ntmps27
  go_wp2_with fail
  refine (R1.out _).mono ?_
  rintro en w2 ⟨rfl, hb2⟩
  clear hW a0 a1 a2 a3
  have p0 := P0.out.on hb2 (by have := SZ.out; omega)
  have p1 := P1.out.on hb2 SZ.out
  obtain ⟨⟨a0, a1, a2, a3⟩, f0⟩ := p0
  have f00 := f0 0
  have f01 := f0 1
  have q0 := (P0.out.on hb2 (by have := SZ.out; omega))
  have q1 := p1
  have hb3 : Below w.heap.size w w2 := (via HB.out hb2)
  have sz3 : w.heap.size + 1 < w2.heap.size := by have := hb2.size; have := SZ.out; simp; omega
  have Q0 := Lib.hid q0; have Q1 := Lib.hid q1; have HB3 := Lib.hid hb3; have SZ3 := Lib.hid sz3
  clear q0 q1 hb3 sz3 p1 f0 P0 P1 HB SZ
  go_wp2_with fail
  refine (R2.out _).mono ?_
  rintro en w4 ⟨rfl, hb4⟩
  clear a0 a1 a2 a3 f00 f01 hb2
  obtain ⟨⟨a0, a1, a2, a3⟩, _⟩ := Q0.out.on hb4 (by have := SZ3.out; omega)
  obtain ⟨⟨a4, a5, a6, a7⟩, f1⟩ := Q1.out.on hb4 SZ3.out
  have g0 := f1 0; have g1 := f1 1; have g2 := f1 2; have g3 := f1 3
  have HB4 := Lib.hid (via HB3.out hb4)
  have n1 : w.heap.size + 1 ≠ w.heap.size := by omega
  clear f1 hb4 Q0 Q1 SZ3
  cases k
  · go_wp2
    refine bodyPost_ret (v := .tuple #[(Value.agg #[Value.int .i64 (0), Value.int .i64 (0), Value.bool false, Value.bool false]), .bool false]) (by simp [results, Tryd.results27, go_sem, *]) rfl ⟨rfl, ?_⟩
    have hB := HB4.out
    (repeat' first | exact Below.refl _ _ | assumption | refine Below.drew ?_ | refine Below.alloc ?_ ?_ _ | refine Below.setCell ?_ ?_ _ | refine below_drewN ?_ _ | (simp; done) | omega | (simp; omega))
  · go_wp2
    refine bodyPost_ret (v := .tuple #[(Value.agg #[Value.int .i64 (c), Value.int .i64 (r), Value.bool true, Value.bool true]), .bool true]) (by simp [results, Tryd.results27, go_sem, *]) rfl ⟨rfl, ?_⟩
    have hB := HB4.out
    (repeat' first | exact Below.refl _ _ | assumption | refine Below.drew ?_ | refine Below.alloc ?_ ?_ _ | refine Below.setCell ?_ ?_ _ | refine below_drewN ?_ _ | (simp; done) | omega | (simp; omega))
set_option maxHeartbeats 4000000 in
theorem moved_out (c r d e : Int) (x y : Bool) (g : rgt c r = false) (w : World) :
    Calls Tryd.prog 27 #[(Value.agg #[Value.int .i64 (c), Value.int .i64 (r), Value.bool x, Value.bool y]), .int .i64 d, .int .i64 e] w fun en w' => en = .returned (.tuple #[(Value.agg #[Value.int .i64 (0), Value.int .i64 (0), Value.bool false, Value.bool false]), .bool false]) ∧ Below w.heap.size w w' := by
  obtain ⟨W, hW, p0, p1, hb, sz⟩ := boxes2 w c r x y
  have P0 := Lib.hid p0; have P1 := Lib.hid p1; have HB := Lib.hid hb
  have SZ := Lib.hid sz
  clear p0 p1 hb sz
  have R1 := Lib.hid (fun W => right_any c r x y W)
  rw [g] at R1
  obtain ⟨a0, a1, a2, a3⟩ := P0.out.b
  clear g
  go_enter Tryd.func27, Tryd.ntmps27
  go_wp2_with fail
  refine (R1.out _).mono ?_
  rintro en w2 ⟨rfl, hb2⟩
  clear hW a0 a1 a2 a3
  obtain ⟨⟨a4, a5, a6, a7⟩, f1⟩ := P1.out.on hb2 SZ.out
  have g0 := f1 0; have g1 := f1 1; have g2 := f1 2; have g3 := f1 3
  have HB4 := Lib.hid (via HB.out hb2)
  clear f1 hb2 P0 P1 HB SZ
  go_wp2
  refine bodyPost_ret (v := .tuple #[(Value.agg #[Value.int .i64 (0), Value.int .i64 (0), Value.bool false, Value.bool false]), .bool false]) (by simp [results, Tryd.results27, go_sem, *]) rfl ⟨rfl, ?_⟩
  have hB := HB4.out
  (repeat' first | exact Below.refl _ _ | assumption | refine Below.drew ?_ | refine Below.alloc ?_ ?_ _ | refine Below.setCell ?_ ?_ _ | refine below_drewN ?_ _ | (simp; done) | omega | (simp; omega))
theorem moved_any (c r d e : Int) (x y : Bool) (d0 : -9223372036854775808 ≤ d) (d1 : d ≤ 9223372036854775807) (e0 : -9223372036854775808 ≤ e) (e1 : e ≤ 9223372036854775807) (w : World) :
    Calls Tryd.prog 27 #[(Value.agg #[Value.int .i64 (c), Value.int .i64 (r), Value.bool x, Value.bool y]), .int .i64 d, .int .i64 e] w fun en w' => en = .returned (.tuple #[mvV c r d e x y, .bool (mvOk c r d e x y)]) ∧ Below w.heap.size w w' := by
  unfold mvV mvOk
  by_cases g : rgt c r = true
  · obtain ⟨h1, h2⟩ := mvw_rgt (x := x) (y := y) g d0 d1 e0 e1
    have key : (if rgt (mvw c d x) (mvw r e y) = true then (Value.agg #[Value.int .i64 (mvw c d x), Value.int .i64 (mvw r e y), Value.bool x, Value.bool y]) else (Value.agg #[Value.int .i64 (0), Value.int .i64 (0), Value.bool false, Value.bool false])) = (if (rgt c r && rgt (mvd c d x 64) (mvd r e y 1000)) = true then (Value.agg #[Value.int .i64 (mvd c d x 64), Value.int .i64 (mvd r e y 1000), Value.bool x, Value.bool y]) else (Value.agg #[Value.int .i64 (0), Value.int .i64 (0), Value.bool false, Value.bool false])) := by
      rw [g, Bool.true_and, ← h1]
      by_cases h : rgt (mvw c d x) (mvw r e y) = true
      · rw [if_pos h, if_pos h, (h2 h).1, (h2 h).2]
      · rw [if_neg h, if_neg h]
    rw [← key, g, Bool.true_and, ← h1]
    cases x <;> cases y
    · exact moved_ff c r d e _ _ _ g (by simp [mvw]) (by simp [mvw]) rfl w
    · exact moved_ft c r d e _ _ _ g (by simp [mvw]) (by simp [mvw]) rfl w
    · exact moved_tf c r d e _ _ _ g (by simp [mvw]) (by simp [mvw]) rfl w
    · exact moved_tt c r d e _ _ _ g (by simp [mvw]) (by simp [mvw]) rfl w
  · have g' : rgt c r = false := by simpa using g
    rw [g', Bool.false_and, if_neg (by simp)]
    exact moved_out c r d e x y g' w
end Go.Proofs.YtikcggbkkgipoaaDoor
