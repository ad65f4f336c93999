/-
  Package cell and the document's cells: Moved: walked.
-/
import Derived.Test.YtikcggbkkgipoaaDoorA1
import Derived.RangeFuncNested
namespace Go.Proofs.YtikcggbkkgipoaaDoor
open Go.RowKit Go.Shelf

theorem froz_newB (w : World) (cs : Array Value) (t : TypeId) (j : Nat) : (w.alloc (.cells cs t)).frozen? ⟨w.heap.size, j, none⟩ = false := by
  unfold World.frozen?
  rw [show (w.alloc (Obj.cells cs t)).heap[w.heap.size]? = some (Obj.cells cs t) from World.alloc_heap_new w _]
  simp
theorem froz_onB {W W' : World} {n B : Nat} {j : Nat} (h : W.frozen? ⟨B, j, none⟩ = false) (hb : Below n W W') (hB : B < n) : W'.frozen? ⟨B, j, none⟩ = false := by
  unfold World.frozen? at *
  rw [hb.block B hB]; exact h
/-- A part of a reference, moved: -1 where it goes out of the grid. -/
def mvd (a d : Int) (fix : Bool) (end_ : Int) : Int := if fix = true then a else if 0 ≤ a + d ∧ a + d < end_ then a + d else -1
def mvOk (c r d e : Int) (x y : Bool) : Bool := rgt c r && rgt (mvd c d x 64) (mvd r e y 1000)
theorem rmoved_any (a d : Int) (fix : Bool) (n : Int) (a0 : 0 ≤ a) (a1 : a < n) (n1 : n ≤ 1000) (_d0 : -9223372036854775808 ≤ d) (_d1 : d ≤ 9223372036854775807) (w : World) :
    Calls Tryd.prog 39 #[.int .i64 a, .int .i64 d, .bool fix, .int .i64 n] w fun e w' => e = .returned (.int .i64 (mvd a d fix n)) ∧ w = w' := by
  have w1 : IntKind.i64.wrap (-a) = -a := by rw [IntKind.wrap_i64]; omega
  have w2 : IntKind.i64.wrap (n - a) = n - a := by rw [IntKind.wrap_i64]; omega
  cases fix
  · by_cases h1 : d < -a
    · rw [show mvd a d false n = -1 by unfold mvd; rw [if_neg (by simp), if_neg (by omega)]]
      go_enter Tryd.func39, Tryd.ntmps39
      go_wp2
      go_ret
      exact ⟨rfl, rfl⟩
    · by_cases h2 : n - a ≤ d
      · rw [show mvd a d false n = -1 by unfold mvd; rw [if_neg (by simp), if_neg (by omega)]]
        go_enter Tryd.func39, Tryd.ntmps39
        go_wp2
        go_ret
        exact ⟨rfl, rfl⟩
      · rw [show mvd a d false n = a + d by unfold mvd; rw [if_neg (by simp), if_pos (by omega)]]
        have w3 : IntKind.i64.wrap (a + d) = a + d := by rw [IntKind.wrap_i64]; omega
        go_enter Tryd.func39, Tryd.ntmps39
        go_wp2
        go_ret
        exact ⟨rfl, rfl⟩
  · rw [show mvd a d true n = a by unfold mvd; rw [if_pos rfl]]
    go_enter Tryd.func39, Tryd.ntmps39
    go_wp2
    go_ret
    exact ⟨rfl, rfl⟩
/-- A reference in a box that may be written. -/
structure Bx (W : World) (B : Nat) (c r : Int) (x y : Bool) : Prop where
  b : BoxR W B c r x y
  f : ∀ j, W.frozen? ⟨B, j, none⟩ = false
theorem Bx.new (w : World) (c r : Int) (x y : Bool) : Bx (w.alloc (.cells #[.int .i64 c, .int .i64 r, .bool x, .bool y] 23)) w.heap.size c r x y := ⟨BoxR.new w c r x y, fun j => froz_newB w _ _ j⟩
theorem Bx.on {W W' : World} {n B : Nat} {c r : Int} {x y : Bool} (h : Bx W B c r x y) (hb : Below n W W') (hB : B < n) : Bx W' B c r x y := ⟨h.b.on hb hB, fun j => froz_onB (h.f j) hb hB⟩
theorem Bx.setc {W : World} {B : Nat} {c r : Int} {x y : Bool} (h : Bx W B c r x y) (c' : Int) : Bx (W.setCell ⟨B, 0, none⟩ (.int .i64 c')) B c' r x y :=
  ⟨⟨World.cell?_setCell_same _ _ _ h.b.c, by rw [World.cell?_setCell_other _ _ _ _ (by simp)]; exact h.b.r, by rw [World.cell?_setCell_other _ _ _ _ (by simp)]; exact h.b.x, by rw [World.cell?_setCell_other _ _ _ _ (by simp)]; exact h.b.y⟩, fun j => by rw [World.frozen?_setCell]; exact h.f j⟩
theorem Bx.setr {W : World} {B : Nat} {c r : Int} {x y : Bool} (h : Bx W B c r x y) (r' : Int) : Bx (W.setCell ⟨B, 1, none⟩ (.int .i64 r')) B c r' x y :=
  ⟨⟨by rw [World.cell?_setCell_other _ _ _ _ (by simp)]; exact h.b.c, World.cell?_setCell_same _ _ _ h.b.r, by rw [World.cell?_setCell_other _ _ _ _ (by simp)]; exact h.b.x, by rw [World.cell?_setCell_other _ _ _ _ (by simp)]; exact h.b.y⟩, fun j => by rw [World.frozen?_setCell]; exact h.f j⟩
theorem Bx.other {W : World} {B B' o : Nat} {c r : Int} {x y : Bool} {v : Value} (h : Bx W B c r x y) (hne : B' ≠ B) : Bx (W.setCell ⟨B', o, none⟩ v) B c r x y :=
  ⟨⟨by rw [World.cell?_setCell_other _ _ _ _ (fun e => hne (by cases e; rfl))]; exact h.b.c, by rw [World.cell?_setCell_other _ _ _ _ (fun e => hne (by cases e; rfl))]; exact h.b.r, by rw [World.cell?_setCell_other _ _ _ _ (fun e => hne (by cases e; rfl))]; exact h.b.x, by rw [World.cell?_setCell_other _ _ _ _ (fun e => hne (by cases e; rfl))]; exact h.b.y⟩, fun j => by rw [World.frozen?_setCell]; exact h.f j⟩
theorem Below.fresh1 (w : World) (o : Obj) : Below w.heap.size w (w.alloc o) := (Below.refl _ _).alloc (Nat.le_refl _) _
/-- Two boxes: a reference that came in, and one for what is handed back. -/
theorem boxes2 (w : World) (c r : Int) (x y : Bool) : ∃ W, (w.alloc (.cells #[.int .i64 c, .int .i64 r, .bool x, .bool y] 23)).alloc (.cells #[.int .i64 0, .int .i64 0, .bool false, .bool false] 23) = W ∧
    Bx W w.heap.size c r x y ∧ Bx W (w.heap.size + 1) 0 0 false false ∧ Below w.heap.size w W ∧ w.heap.size + 1 < W.heap.size := by
  refine ⟨_, rfl, (Bx.new w c r x y).on (Below.fresh1 _ _) (by simp), ?_, by (repeat' first | exact Below.refl _ _ | refine Below.alloc ?_ ?_ _ | refine Below.setCell ?_ ?_ _ | refine below_drewN ?_ _ | (simp; done) | (simp; omega)), by simp⟩
  have h := Bx.new (w.alloc (.cells #[.int .i64 c, .int .i64 r, .bool x, .bool y] 23)) 0 0 false false
  rw [World.size_alloc] at h
  exact h
def mvV (c r d e : Int) (x y : Bool) : Value := if mvOk c r d e x y = true then (Value.agg #[Value.int .i64 (mvd c d x 64), Value.int .i64 (mvd r e y 1000), Value.bool x, Value.bool y]) else (Value.agg #[Value.int .i64 (0), Value.int .i64 (0), Value.bool false, Value.bool false])
set_option maxHeartbeats 1000000 in
theorem rmovedR_any (c r d e : Int) (x y : Bool) (d0 : -9223372036854775808 ≤ d) (d1 : d ≤ 9223372036854775807) (e0 : -9223372036854775808 ≤ e) (e1 : e ≤ 9223372036854775807) (w : World) :
    Calls Tryd.prog 28 #[(Value.agg #[Value.int .i64 (c), Value.int .i64 (r), Value.bool x, Value.bool y]), .int .i64 d, .int .i64 e] w fun en w' => en = .returned (.tuple #[mvV c r d e x y, .bool (mvOk c r d e x y)]) ∧ Below w.heap.size w w' := by
  unfold mvV mvOk
  obtain ⟨W, hW, p0, p1, hb, sz⟩ := boxes2 w c r x y
  have P0 := Lib.hid p0; have P1 := Lib.hid p1; have HB := Lib.hid hb
  have SZ := Lib.hid sz
  clear p0 p1 hb sz
  have RC := Lib.hid (fun (c r : Int) W => rright_any c r x y W)
  by_cases g : rgt c r = true
  · rw [g, Bool.true_and]
    obtain ⟨c0, c1, r0, r1⟩ := rgt_iff.1 g
    have R1 := Lib.hid (fun W => rright_any c r x y W)
    rw [g] at R1
    have M1 := Lib.hid (fun W => rmoved_any c d x 64 c0 c1 (by omega) d0 d1 W)
    have M2 := Lib.hid (fun W => rmoved_any r e y 1000 r0 r1 (by omega) e0 e1 W)
    generalize mvd c d x 64 = C at *
    generalize mvd r e y 1000 = R at *
    have R2 := Lib.hid (fun W => rright_any C R x y W)
    obtain ⟨k, hk⟩ : ∃ k, rgt C R = k := ⟨_, rfl⟩
    rw [hk] at R2 ⊢
    clear g c0 c1 r0 r1 d0 d1 e0 e1 hk RC
    obtain ⟨a0, a1, a2, a3⟩ := P0.out.b
    go_enter Tryd.func28, Tryd.ntmps28
    go_wp2_with fail
    refine (R1.out _).mono ?_
    rintro en w2 ⟨rfl, hb2⟩
    clear hW a0 a1 a2 a3
    have p0 := P0.out.on hb2 (by have := SZ.out; omega)
    have p1 := P1.out.on hb2 SZ.out
    obtain ⟨⟨a0, a1, a2, a3⟩, f0⟩ := p0
    have f00 := f0 0
    have f01 := f0 1
    go_wp2_with fail
    refine (M1.out _).mono ?_
    rintro en w3 ⟨rfl, rfl⟩
    go_wp2_with fail
    refine (M2.out _).mono ?_
    rintro en w3 ⟨rfl, rfl⟩
    have q0 := ((P0.out.on hb2 (by have := SZ.out; omega)).setc C).setr R
    have q1 := (p1.other (o := 0) (v := .int .i64 C) (B' := w.heap.size) (by omega)).other (o := 1) (v := .int .i64 R) (B' := w.heap.size) (by omega)
    have hb3 : Below w.heap.size w ((w2.setCell ⟨w.heap.size, 0, none⟩ (.int .i64 C)).setCell ⟨w.heap.size, 1, none⟩ (.int .i64 R)) := ((via HB.out hb2).setCell (Nat.le_refl _) _).setCell (Nat.le_refl _) _
    have sz3 : w.heap.size + 1 < ((w2.setCell ⟨w.heap.size, 0, none⟩ (.int .i64 C)).setCell ⟨w.heap.size, 1, none⟩ (.int .i64 R)).heap.size := by have := hb2.size; have := SZ.out; simp [World.setCell]; omega
    have Q0 := Lib.hid q0; have Q1 := Lib.hid q1; have HB3 := Lib.hid hb3; have SZ3 := Lib.hid sz3
    clear q0 q1 hb3 sz3 p1 f0 P0 P1 HB SZ
    go_wp2_with fail
    refine (R2.out _).mono ?_
    rintro en w4 ⟨rfl, hb4⟩
    clear a0 a1 a2 a3 f00 f01 hb2
    obtain ⟨⟨a0, a1, a2, a3⟩, _⟩ := Q0.out.on hb4 (by have := SZ3.out; omega)
    obtain ⟨⟨a4, a5, a6, a7⟩, f1⟩ := Q1.out.on hb4 SZ3.out
    have g0 := f1 0; have g1 := f1 1; have g2 := f1 2; have g3 := f1 3
    have HB4 := Lib.hid (via HB3.out hb4)
    have n1 : w.heap.size + 1 ≠ w.heap.size := by omega
    clear f1 hb4 Q0 Q1 SZ3
    cases k
    · go_wp2
      refine bodyPost_ret (v := .tuple #[(Value.agg #[Value.int .i64 (0), Value.int .i64 (0), Value.bool false, Value.bool false]), .bool false]) (by simp [results, Tryd.results28, go_sem, *]) rfl ⟨rfl, ?_⟩
      have hB := HB4.out
      (repeat' first | exact Below.refl _ _ | assumption | refine Below.drew ?_ | refine Below.alloc ?_ ?_ _ | refine Below.setCell ?_ ?_ _ | refine below_drewN ?_ _ | (simp; done) | omega | (simp; omega))
    · go_wp2
      refine bodyPost_ret (v := .tuple #[(Value.agg #[Value.int .i64 (C), Value.int .i64 (R), Value.bool x, Value.bool y]), .bool true]) (by simp [results, Tryd.results28, go_sem, *]) rfl ⟨rfl, ?_⟩
      have hB := HB4.out
      (repeat' first | exact Below.refl _ _ | assumption | refine Below.drew ?_ | refine Below.alloc ?_ ?_ _ | refine Below.setCell ?_ ?_ _ | refine below_drewN ?_ _ | (simp; done) | omega | (simp; omega))
  · have g' : rgt c r = false := by simpa using g
    rw [g', Bool.false_and, if_neg (by simp)]
    have R1 := Lib.hid (fun W => rright_any c r x y W)
    rw [g'] at R1
    obtain ⟨a0, a1, a2, a3⟩ := P0.out.b
    clear g g'
    go_enter Tryd.func28, Tryd.ntmps28
    go_wp2_with fail
    refine (R1.out _).mono ?_
    rintro en w2 ⟨rfl, hb2⟩
    clear hW a0 a1 a2 a3
    obtain ⟨⟨a4, a5, a6, a7⟩, f1⟩ := P1.out.on hb2 SZ.out
    have g0 := f1 0; have g1 := f1 1; have g2 := f1 2; have g3 := f1 3
    have HB4 := Lib.hid (via HB.out hb2)
    clear f1 hb2 P0 P1 HB SZ
    go_wp2
    refine bodyPost_ret (v := .tuple #[(Value.agg #[Value.int .i64 (0), Value.int .i64 (0), Value.bool false, Value.bool false]), .bool false]) (by simp [results, Tryd.results28, go_sem, *]) rfl ⟨rfl, ?_⟩
    have hB := HB4.out
    (repeat' first | exact Below.refl _ _ | assumption | refine Below.drew ?_ | refine Below.alloc ?_ ?_ _ | refine Below.setCell ?_ ?_ _ | refine below_drewN ?_ _ | (simp; done) | omega | (simp; omega))
end Go.Proofs.YtikcggbkkgipoaaDoor
