/-
  Package cell and the document's cells: Right, Index, At: walked.
-/
import Derived.Test.YtikcggbkkgipoaaDoorRows
import Derived.Test.YtikcggbkkgipoaaDoorShelf
import Derived.WalkKit
import Derived.BigQuiet
import Derived.BigRegion
import Derived.Deep.QuietTactic
import Derived.Deep.RegionWith
import Derived.Lib.Hide
import Derived.Lib.SmallJoins
namespace Go.Proofs.YtikcggbkkgipoaaDoor
open Go.RowKit Go.Shelf

def rgt (c r : Int) : Bool := decide (0 ≤ c ∧ c < 64 ∧ 0 ≤ r ∧ r < 1000)
theorem rgt_t {c r : Int} (h : 0 ≤ c ∧ c < 64 ∧ 0 ≤ r ∧ r < 1000) : rgt c r = true := by unfold rgt; exact decide_eq_true h
theorem rgt_f {c r : Int} (h : ¬ (0 ≤ c ∧ c < 64 ∧ 0 ≤ r ∧ r < 1000)) : rgt c r = false := by unfold rgt; exact decide_eq_false h
theorem rgt_iff {c r : Int} : rgt c r = true ↔ 0 ≤ c ∧ c < 64 ∧ 0 ≤ r ∧ r < 1000 := by unfold rgt; exact decide_eq_true_iff
theorem via {w X x : World} (h1 : Below w.heap.size w X) (h2 : Below X.heap.size X x) : Below w.heap.size w x := h1.trans (h2.mono h1.size)
/-- A reference in a box. -/
structure BoxR (W : World) (B : Nat) (c r : Int) (x y : Bool) : Prop where
  c : W.cell? ⟨B, 0, none⟩ = some (.int .i64 c)
  r : W.cell? ⟨B, 1, none⟩ = some (.int .i64 r)
  x : W.cell? ⟨B, 2, none⟩ = some (.bool x)
  y : W.cell? ⟨B, 3, none⟩ = some (.bool y)
theorem BoxR.new (w : World) (c r : Int) (x y : Bool) : BoxR (w.alloc (.cells #[.int .i64 c, .int .i64 r, .bool x, .bool y] 23)) w.heap.size c r x y :=
  ⟨by rw [World.cell?_alloc_at _ _ _ _ rfl]; rfl, by rw [World.cell?_alloc_at _ _ _ _ rfl]; rfl, by rw [World.cell?_alloc_at _ _ _ _ rfl]; rfl, by rw [World.cell?_alloc_at _ _ _ _ rfl]; rfl⟩
theorem BoxR.on {W W' : World} {n B : Nat} {c r : Int} {x y : Bool} (h : BoxR W B c r x y) (hb : Below n W W') (hB : B < n) : BoxR W' B c r x y :=
  ⟨by rw [hb.cell (p := ⟨B, 0, none⟩) hB]; exact h.c, by rw [hb.cell (p := ⟨B, 1, none⟩) hB]; exact h.r, by rw [hb.cell (p := ⟨B, 2, none⟩) hB]; exact h.x, by rw [hb.cell (p := ⟨B, 3, none⟩) hB]; exact h.y⟩
theorem right_any (c r : Int) (x y : Bool) (w : World) :
    Calls Tryd.prog 12 #[(Value.agg #[Value.int .i64 (c), Value.int .i64 (r), Value.bool x, Value.bool y])] w fun e w' => e = .returned (.bool (rgt c r)) ∧ Below w.heap.size w w' := by
  by_cases h1 : 0 ≤ c
  · by_cases h2 : c < 64
    · by_cases h3 : 0 ≤ r
      · by_cases h4 : r < 1000
        · rw [rgt_t ⟨h1, h2, h3, h4⟩]
          go_enter Tryd.func12, Tryd.ntmps12
          go_wp2
          go_ret
          exact ⟨rfl, by (repeat' first | exact Below.refl _ _ | refine Below.alloc ?_ ?_ _ | refine Below.setCell ?_ ?_ _ | refine below_drewN ?_ _ | (simp; done) | (simp; omega))⟩
        · rw [rgt_f (by omega)]
          go_enter Tryd.func12, Tryd.ntmps12
          go_wp2
          go_ret
          exact ⟨rfl, by (repeat' first | exact Below.refl _ _ | refine Below.alloc ?_ ?_ _ | refine Below.setCell ?_ ?_ _ | refine below_drewN ?_ _ | (simp; done) | (simp; omega))⟩
      · rw [rgt_f (by omega)]
        go_enter Tryd.func12, Tryd.ntmps12
        go_wp2
        go_ret
        exact ⟨rfl, by (repeat' first | exact Below.refl _ _ | refine Below.alloc ?_ ?_ _ | refine Below.setCell ?_ ?_ _ | refine below_drewN ?_ _ | (simp; done) | (simp; omega))⟩
    · rw [rgt_f (by omega)]
      go_enter Tryd.func12, Tryd.ntmps12
      go_wp2
      go_ret
      exact ⟨rfl, by (repeat' first | exact Below.refl _ _ | refine Below.alloc ?_ ?_ _ | refine Below.setCell ?_ ?_ _ | refine below_drewN ?_ _ | (simp; done) | (simp; omega))⟩
  · rw [rgt_f (by omega)]
    go_enter Tryd.func12, Tryd.ntmps12
    go_wp2
    go_ret
    exact ⟨rfl, by (repeat' first | exact Below.refl _ _ | refine Below.alloc ?_ ?_ _ | refine Below.setCell ?_ ?_ _ | refine below_drewN ?_ _ | (simp; done) | (simp; omega))⟩
theorem rright_any (c r : Int) (x y : Bool) (w : World) :
    Calls Tryd.prog 13 #[(Value.agg #[Value.int .i64 (c), Value.int .i64 (r), Value.bool x, Value.bool y])] w fun e w' => e = .returned (.bool (rgt c r)) ∧ Below w.heap.size w w' := by
  by_cases h1 : 0 ≤ c
  · by_cases h2 : c < 64
    · by_cases h3 : 0 ≤ r
      · by_cases h4 : r < 1000
        · rw [rgt_t ⟨h1, h2, h3, h4⟩]
          go_enter Tryd.func13, Tryd.ntmps13
          go_wp2
          go_ret
          exact ⟨rfl, by (repeat' first | exact Below.refl _ _ | refine Below.alloc ?_ ?_ _ | refine Below.setCell ?_ ?_ _ | refine below_drewN ?_ _ | (simp; done) | (simp; omega))⟩
        · rw [rgt_f (by omega)]
          go_enter Tryd.func13, Tryd.ntmps13
          go_wp2
          go_ret
          exact ⟨rfl, by (repeat' first | exact Below.refl _ _ | refine Below.alloc ?_ ?_ _ | refine Below.setCell ?_ ?_ _ | refine below_drewN ?_ _ | (simp; done) | (simp; omega))⟩
      · rw [rgt_f (by omega)]
        go_enter Tryd.func13, Tryd.ntmps13
        go_wp2
        go_ret
        exact ⟨rfl, by (repeat' first | exact Below.refl _ _ | refine Below.alloc ?_ ?_ _ | refine Below.setCell ?_ ?_ _ | refine below_drewN ?_ _ | (simp; done) | (simp; omega))⟩
    · rw [rgt_f (by omega)]
      go_enter Tryd.func13, Tryd.ntmps13
      go_wp2
      go_ret
      exact ⟨rfl, by (repeat' first | exact Below.refl _ _ | refine Below.alloc ?_ ?_ _ | refine Below.setCell ?_ ?_ _ | refine below_drewN ?_ _ | (simp; done) | (simp; omega))⟩
  · rw [rgt_f (by omega)]
    go_enter Tryd.func13, Tryd.ntmps13
    go_wp2
    go_ret
    exact ⟨rfl, by (repeat' first | exact Below.refl _ _ | refine Below.alloc ?_ ?_ _ | refine Below.setCell ?_ ?_ _ | refine below_drewN ?_ _ | (simp; done) | (simp; omega))⟩
def idx (c r : Int) : Int := if rgt c r = true then 64 * r + c else -1
def atC (i : Int) : Int := if i < 0 ∨ 64000 ≤ i then -1 else i % 64
def atR (i : Int) : Int := if i < 0 ∨ 64000 ≤ i then -1 else i / 64
theorem index_any (c r : Int) (x y : Bool) (w : World) :
    Calls Tryd.prog 16 #[(Value.agg #[Value.int .i64 (c), Value.int .i64 (r), Value.bool x, Value.bool y])] w fun e w' => e = .returned (.int .i64 (idx c r)) ∧ Below w.heap.size w w' := by
  unfold idx
  by_cases g : rgt c r = true
  · rw [if_pos g]
    have RC := Lib.hid (fun W => right_any c r x y W)
    rw [g] at RC
    obtain ⟨c0, c1, r0, r1⟩ := rgt_iff.1 g
    clear g
    have w1 : IntKind.i64.wrap (64 * r) = 64 * r := by rw [IntKind.wrap_i64]; omega
    have w2 : IntKind.i64.wrap (64 * r + c) = 64 * r + c := by rw [IntKind.wrap_i64]; omega
    go_enter Tryd.func16, Tryd.ntmps16
    go_wp2_with fail
    refine (RC.out _).mono ?_
    rintro e w2 ⟨rfl, hb⟩
    have HB : Below w.heap.size w w2 := (by (repeat' first | exact Below.refl _ _ | refine Below.alloc ?_ ?_ _ | refine Below.setCell ?_ ?_ _ | refine below_drewN ?_ _ | (simp; done) | (simp; omega)) : Below w.heap.size w _).trans (hb.mono (by simp))
    obtain ⟨b0, b1, b2, b3⟩ := (BoxR.new w c r x y).on hb (by simp)
    go_wp2
    go_ret
    exact ⟨rfl, HB⟩
  · have g' : rgt c r = false := by simpa using g
    rw [if_neg g]
    have RC := Lib.hid (fun W => right_any c r x y W)
    rw [g'] at RC
    clear g g'
    go_enter Tryd.func16, Tryd.ntmps16
    go_wp2_with fail
    refine (RC.out _).mono ?_
    rintro e w2 ⟨rfl, hb⟩
    have HB : Below w.heap.size w w2 := (by (repeat' first | exact Below.refl _ _ | refine Below.alloc ?_ ?_ _ | refine Below.setCell ?_ ?_ _ | refine below_drewN ?_ _ | (simp; done) | (simp; omega)) : Below w.heap.size w _).trans (hb.mono (by simp))
    go_wp2
    go_ret
    exact ⟨rfl, HB⟩
theorem rindex_any (c r : Int) (x y : Bool) (w : World) :
    Calls Tryd.prog 17 #[(Value.agg #[Value.int .i64 (c), Value.int .i64 (r), Value.bool x, Value.bool y])] w fun e w' => e = .returned (.int .i64 (idx c r)) ∧ Below w.heap.size w w' := by
  unfold idx
  by_cases g : rgt c r = true
  · rw [if_pos g]
    have RC := Lib.hid (fun W => rright_any c r x y W)
    rw [g] at RC
    obtain ⟨c0, c1, r0, r1⟩ := rgt_iff.1 g
    clear g
    have w1 : IntKind.i64.wrap (64 * r) = 64 * r := by rw [IntKind.wrap_i64]; omega
    have w2 : IntKind.i64.wrap (64 * r + c) = 64 * r + c := by rw [IntKind.wrap_i64]; omega
    go_enter Tryd.func17, Tryd.ntmps17
    go_wp2_with fail
    refine (RC.out _).mono ?_
    rintro e w2 ⟨rfl, hb⟩
    have HB : Below w.heap.size w w2 := (by (repeat' first | exact Below.refl _ _ | refine Below.alloc ?_ ?_ _ | refine Below.setCell ?_ ?_ _ | refine below_drewN ?_ _ | (simp; done) | (simp; omega)) : Below w.heap.size w _).trans (hb.mono (by simp))
    obtain ⟨b0, b1, b2, b3⟩ := (BoxR.new w c r x y).on hb (by simp)
    go_wp2
    go_ret
    exact ⟨rfl, HB⟩
  · have g' : rgt c r = false := by simpa using g
    rw [if_neg g]
    have RC := Lib.hid (fun W => rright_any c r x y W)
    rw [g'] at RC
    clear g g'
    go_enter Tryd.func17, Tryd.ntmps17
    go_wp2_with fail
    refine (RC.out _).mono ?_
    rintro e w2 ⟨rfl, hb⟩
    have HB : Below w.heap.size w w2 := (by (repeat' first | exact Below.refl _ _ | refine Below.alloc ?_ ?_ _ | refine Below.setCell ?_ ?_ _ | refine below_drewN ?_ _ | (simp; done) | (simp; omega)) : Below w.heap.size w _).trans (hb.mono (by simp))
    go_wp2
    go_ret
    exact ⟨rfl, HB⟩
theorem at_any (i : Int) (h0 : -9223372036854775808 ≤ i) (h1 : i ≤ 9223372036854775807) (w : World) :
    Calls Tryd.prog 18 #[.int .i64 i] w fun e w' => e = .returned (Value.agg #[Value.int .i64 ((atC i)), Value.int .i64 ((atR i)), Value.bool false, Value.bool false]) ∧ Below w.heap.size w w' := by
  unfold atC atR
  by_cases g0 : i < 0
  · rw [if_pos (.inl g0), if_pos (.inl g0)]
    go_enter Tryd.func18, Tryd.ntmps18
    go_wp2
    refine bodyPost_ret (v := (Value.agg #[Value.int .i64 (-1), Value.int .i64 (-1), Value.bool false, Value.bool false])) (by simp [results, Tryd.results18, go_sem]) rfl ⟨rfl, by (repeat' first | exact Below.refl _ _ | refine Below.alloc ?_ ?_ _ | refine Below.setCell ?_ ?_ _ | refine below_drewN ?_ _ | (simp; done) | (simp; omega))⟩
  · by_cases g1 : 64000 ≤ i
    · rw [if_pos (.inr g1), if_pos (.inr g1)]
      go_enter Tryd.func18, Tryd.ntmps18
      go_wp2
      refine bodyPost_ret (v := (Value.agg #[Value.int .i64 (-1), Value.int .i64 (-1), Value.bool false, Value.bool false])) (by simp [results, Tryd.results18, go_sem]) rfl ⟨rfl, by (repeat' first | exact Below.refl _ _ | refine Below.alloc ?_ ?_ _ | refine Below.setCell ?_ ?_ _ | refine below_drewN ?_ _ | (simp; done) | (simp; omega))⟩
    · rw [if_neg (by omega), if_neg (by omega)]
      have t1 : i.tmod 64 = i % 64 := Int.tmod_eq_emod_of_nonneg (by omega)
      have t2 : i.tdiv 64 = i / 64 := Int.tdiv_eq_ediv_of_nonneg (by omega)
      have w1 : IntKind.i64.wrap (i / 64) = i / 64 := by rw [IntKind.wrap_i64]; omega
      have w2 : IntKind.i64.wrap (i % 64) = i % 64 := by rw [IntKind.wrap_i64]; omega
      go_enter Tryd.func18, Tryd.ntmps18
      go_wp2
      refine bodyPost_ret (v := (Value.agg #[Value.int .i64 ((i % 64)), Value.int .i64 ((i / 64)), Value.bool false, Value.bool false])) (by simp [results, Tryd.results18, go_sem]) rfl ⟨rfl, by (repeat' first | exact Below.refl _ _ | refine Below.alloc ?_ ?_ _ | refine Below.setCell ?_ ?_ _ | refine below_drewN ?_ _ | (simp; done) | (simp; omega))⟩
theorem rat_any (i : Int) (h0 : -9223372036854775808 ≤ i) (h1 : i ≤ 9223372036854775807) (w : World) :
    Calls Tryd.prog 19 #[.int .i64 i] w fun e w' => e = .returned (Value.agg #[Value.int .i64 ((atC i)), Value.int .i64 ((atR i)), Value.bool false, Value.bool false]) ∧ Below w.heap.size w w' := by
  unfold atC atR
  by_cases g0 : i < 0
  · rw [if_pos (.inl g0), if_pos (.inl g0)]
    go_enter Tryd.func19, Tryd.ntmps19
    go_wp2
    refine bodyPost_ret (v := (Value.agg #[Value.int .i64 (-1), Value.int .i64 (-1), Value.bool false, Value.bool false])) (by simp [results, Tryd.results19, go_sem]) rfl ⟨rfl, by (repeat' first | exact Below.refl _ _ | refine Below.alloc ?_ ?_ _ | refine Below.setCell ?_ ?_ _ | refine below_drewN ?_ _ | (simp; done) | (simp; omega))⟩
  · by_cases g1 : 64000 ≤ i
    · rw [if_pos (.inr g1), if_pos (.inr g1)]
      go_enter Tryd.func19, Tryd.ntmps19
      go_wp2
      refine bodyPost_ret (v := (Value.agg #[Value.int .i64 (-1), Value.int .i64 (-1), Value.bool false, Value.bool false])) (by simp [results, Tryd.results19, go_sem]) rfl ⟨rfl, by (repeat' first | exact Below.refl _ _ | refine Below.alloc ?_ ?_ _ | refine Below.setCell ?_ ?_ _ | refine below_drewN ?_ _ | (simp; done) | (simp; omega))⟩
    · rw [if_neg (by omega), if_neg (by omega)]
      have t1 : i.tmod 64 = i % 64 := Int.tmod_eq_emod_of_nonneg (by omega)
      have t2 : i.tdiv 64 = i / 64 := Int.tdiv_eq_ediv_of_nonneg (by omega)
      have w1 : IntKind.i64.wrap (i / 64) = i / 64 := by rw [IntKind.wrap_i64]; omega
      have w2 : IntKind.i64.wrap (i % 64) = i % 64 := by rw [IntKind.wrap_i64]; omega
      go_enter Tryd.func19, Tryd.ntmps19
      go_wp2
      refine bodyPost_ret (v := (Value.agg #[Value.int .i64 ((i % 64)), Value.int .i64 ((i / 64)), Value.bool false, Value.bool false])) (by simp [results, Tryd.results19, go_sem]) rfl ⟨rfl, by (repeat' first | exact Below.refl _ _ | refine Below.alloc ?_ ?_ _ | refine Below.setCell ?_ ?_ _ | refine below_drewN ?_ _ | (simp; done) | (simp; omega))⟩
end Go.Proofs.YtikcggbkkgipoaaDoor
