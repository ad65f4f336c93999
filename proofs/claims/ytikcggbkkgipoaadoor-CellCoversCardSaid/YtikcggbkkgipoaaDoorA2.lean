/-
  Package cell: corners, Area: walked.
-/
import Derived.Test.YtikcggbkkgipoaaDoorA1
import Derived.RangeFuncNested
import Derived.Deep.RegionHeld3
namespace Go.Proofs.YtikcggbkkgipoaaDoor
open Go.RowKit Go.Shelf

theorem froz_new (w : World) (cs : Array Value) (t : TypeId) (j : Nat) : (w.alloc (.cells cs t)).frozen? ⟨w.heap.size, j, none⟩ = false := by
  unfold World.frozen?
  rw [show (w.alloc (Obj.cells cs t)).heap[w.heap.size]? = some (Obj.cells cs t) from World.alloc_heap_new w _]
  simp
theorem froz_on {W W' : World} {n B : Nat} {j : Nat} (h : W.frozen? ⟨B, j, none⟩ = false) (hb : Below n W W') (hB : B < n) : W'.frozen? ⟨B, j, none⟩ = false := by
  unfold World.frozen? at *
  rw [hb.block B hB]; exact h
theorem Below.new1 (w : World) (o : Obj) : Below w.heap.size w (w.alloc o) := (Below.refl _ _).alloc (Nat.le_refl _) _
theorem boxes4 (w : World) (c r d s : Int) (x y u v : Bool) : ∃ W, (((w.alloc (.cells #[.int .i64 c, .int .i64 r, .bool x, .bool y] 23)).alloc (.cells #[.int .i64 d, .int .i64 s, .bool u, .bool v] 23)).alloc (.cells #[.int .i64 0, .int .i64 0, .bool false, .bool false] 23)).alloc (.cells #[.int .i64 0, .int .i64 0, .bool false, .bool false] 23) = W ∧
    BoxR W w.heap.size c r x y ∧ BoxR W (w.heap.size + 1) d s u v ∧ BoxR W (w.heap.size + 1 + 1) 0 0 false false ∧ BoxR W (w.heap.size + 1 + 1 + 1) 0 0 false false ∧ (∀ j, W.frozen? ⟨w.heap.size + 1 + 1, j, none⟩ = false) ∧ (∀ j, W.frozen? ⟨w.heap.size + 1 + 1 + 1, j, none⟩ = false) ∧ Below w.heap.size w W := by
  refine ⟨_, rfl, ?_, ?_, ?_, ?_, ?_, ?_, by (repeat' first | exact Below.refl _ _ | refine Below.alloc ?_ ?_ _ | refine Below.setCell ?_ ?_ _ | refine below_drewN ?_ _ | (simp; done) | (simp; omega))⟩
  · exact (((BoxR.new w c r x y).on (Below.new1 _ _) (by simp)).on (Below.new1 _ _) (by simp [World.size_alloc] <;> omega)).on (Below.new1 _ _) (by simp [World.size_alloc] <;> omega)
  · have h := BoxR.new (w.alloc (.cells #[.int .i64 c, .int .i64 r, .bool x, .bool y] 23)) d s u v
    rw [World.size_alloc] at h
    exact (h.on (Below.new1 _ _) (by simp)).on (Below.new1 _ _) (by simp [World.size_alloc] <;> omega)
  · have h := BoxR.new ((w.alloc (.cells #[.int .i64 c, .int .i64 r, .bool x, .bool y] 23)).alloc (.cells #[.int .i64 d, .int .i64 s, .bool u, .bool v] 23)) 0 0 false false
    rw [World.size_alloc, World.size_alloc] at h
    exact h.on (Below.new1 _ _) (by simp)
  · have h := BoxR.new (((w.alloc (.cells #[.int .i64 c, .int .i64 r, .bool x, .bool y] 23)).alloc (.cells #[.int .i64 d, .int .i64 s, .bool u, .bool v] 23)).alloc (.cells #[.int .i64 0, .int .i64 0, .bool false, .bool false] 23)) 0 0 false false
    rw [World.size_alloc, World.size_alloc, World.size_alloc] at h
    exact h
  · intro j
    have h := froz_new ((w.alloc (.cells #[.int .i64 c, .int .i64 r, .bool x, .bool y] 23)).alloc (.cells #[.int .i64 d, .int .i64 s, .bool u, .bool v] 23)) #[.int .i64 0, .int .i64 0, .bool false, .bool false] 23 j
    rw [World.size_alloc, World.size_alloc] at h
    exact froz_on h (Below.new1 _ _) (by simp)
  · intro j
    have h := froz_new (((w.alloc (.cells #[.int .i64 c, .int .i64 r, .bool x, .bool y] 23)).alloc (.cells #[.int .i64 d, .int .i64 s, .bool u, .bool v] 23)).alloc (.cells #[.int .i64 0, .int .i64 0, .bool false, .bool false] 23)) #[.int .i64 0, .int .i64 0, .bool false, .bool false] 23 j
    rw [World.size_alloc, World.size_alloc, World.size_alloc] at h
    exact h
theorem BoxR.drew {W : World} {B : Nat} {c r : Int} {x y : Bool} (h : BoxR W B c r x y) : BoxR W.drew B c r x y := ⟨h.c, h.r, h.x, h.y⟩
theorem BoxR.far {W : World} {B B' n : Nat} {c r : Int} {x y : Bool} {v : Value} (h : BoxR W B c r x y) (hne : B' ≠ B) : BoxR (W.setCell ⟨B', n, none⟩ v) B c r x y :=
  ⟨by rw [World.cell?_setCell_other _ _ _ _ (fun e => hne (by cases e; rfl))]; exact h.c, by rw [World.cell?_setCell_other _ _ _ _ (fun e => hne (by cases e; rfl))]; exact h.r, by rw [World.cell?_setCell_other _ _ _ _ (fun e => hne (by cases e; rfl))]; exact h.x, by rw [World.cell?_setCell_other _ _ _ _ (fun e => hne (by cases e; rfl))]; exact h.y⟩
theorem BoxR.set4 {W : World} {B : Nat} {c r : Int} {x y : Bool} (h : BoxR W B c r x y) (c' r' : Int) (x' y' : Bool) : BoxR ((((W.setCell ⟨B, 0, none⟩ (.int .i64 c')).setCell ⟨B, 1, none⟩ (.int .i64 r')).setCell ⟨B, 2, none⟩ (.bool x')).setCell ⟨B, 3, none⟩ (.bool y')) B c' r' x' y' := by
  have e1 : (W.setCell ⟨B, 0, none⟩ (.int .i64 c')).cell? ⟨B, 1, none⟩ = some (.int .i64 r) := by rw [World.cell?_setCell_other _ _ _ _ (by simp)]; exact h.r
  have e2 : ((W.setCell ⟨B, 0, none⟩ (.int .i64 c')).setCell ⟨B, 1, none⟩ (.int .i64 r')).cell? ⟨B, 2, none⟩ = some (.bool x) := by rw [World.cell?_setCell_other _ _ _ _ (by simp), World.cell?_setCell_other _ _ _ _ (by simp)]; exact h.x
  have e3 : (((W.setCell ⟨B, 0, none⟩ (.int .i64 c')).setCell ⟨B, 1, none⟩ (.int .i64 r')).setCell ⟨B, 2, none⟩ (.bool x')).cell? ⟨B, 3, none⟩ = some (.bool y) := by rw [World.cell?_setCell_other _ _ _ _ (by simp), World.cell?_setCell_other _ _ _ _ (by simp), World.cell?_setCell_other _ _ _ _ (by simp)]; exact h.y
  refine ⟨?_, ?_, ?_, World.cell?_setCell_same _ _ _ e3⟩
  · rw [World.cell?_setCell_other _ _ _ _ (by simp), World.cell?_setCell_other _ _ _ _ (by simp), World.cell?_setCell_other _ _ _ _ (by simp)]; exact World.cell?_setCell_same _ _ _ h.c
  · rw [World.cell?_setCell_other _ _ _ _ (by simp), World.cell?_setCell_other _ _ _ _ (by simp)]; exact World.cell?_setCell_same _ _ _ e1
  · rw [World.cell?_setCell_other _ _ _ _ (by simp)]; exact World.cell?_setCell_same _ _ _ e2
set_option maxHeartbeats 4000000 in
theorem corners_any (c r d s : Int) (x y u v : Bool) (w : World) :
    Calls Tryd.prog 37 #[(Value.agg #[Value.int .i64 (c), Value.int .i64 (r), Value.bool x, Value.bool y]), (Value.agg #[Value.int .i64 (d), Value.int .i64 (s), Value.bool u, Value.bool v])] w fun e w' => e = .returned (.tuple #[(Value.agg #[Value.int .i64 (min c d), Value.int .i64 (min r s), Value.bool false, Value.bool false]), (Value.agg #[Value.int .i64 (max c d), Value.int .i64 (max r s), Value.bool false, Value.bool false])]) ∧ Below w.heap.size w w' := by
  obtain ⟨W, hW, p0, p1, p2, p3, f2, f3, hb⟩ := boxes4 w c r d s x y u v
  go_enter Tryd.func37, Tryd.ntmps37
  go_wp2
  clear hW
  obtain ⟨a0, a1, a2, a3⟩ := p0
  obtain ⟨a4, a5, a6, a7⟩ := p1
  obtain ⟨a8, a9, a10, a11⟩ := p2
  obtain ⟨a12, a13, a14, a15⟩ := p3
  have HB := Lib.hid hb
  clear hb
  have g0 := f2 0; have g1 := f2 1; have g2 := f2 2; have g3 := f2 3
  have g4 := f3 0; have g5 := f3 1; have g6 := f3 2; have g7 := f3 3
  clear f2 f3 a2 a3 a6 a7
  generalize hb3 : w.heap.size + 1 + 1 + 1 = b3 at *
  generalize hb2 : w.heap.size + 1 + 1 = b2 at *
  generalize hb1 : w.heap.size + 1 = b1 at *
  have n1 : b2 ≠ b3 := by omega
  have n2 : b2 ≠ w.heap.size := by omega
  have n3 : b2 ≠ b1 := by omega
  have n4 : b3 ≠ w.heap.size := by omega
  have n5 : b3 ≠ b1 := by omega
  refine wp_region_held_drew (S := (fun w' => w'.cell? ⟨w.heap.size, 0, none⟩ = some (.int .i64 c) ∧ w'.cell? ⟨w.heap.size, 1, none⟩ = some (.int .i64 r) ∧ w'.cell? ⟨b1, 0, none⟩ = some (.int .i64 d) ∧ w'.cell? ⟨b1, 1, none⟩ = some (.int .i64 s))) (by kernel_rfl) (by simp [*, go_sem]) (fun hHeld => ?_)
  refine wpAnyH_take (i := 0) (v := .pointer (some ⟨w.heap.size, 0, none⟩)) rfl (by kernel_rfl) (by kernel_rfl) (by kernel_rfl) (fun _ _ _ h => h) (Or.inl ⟨by rfl, ?_⟩) (by assumption) ?_
  · intro w hSw; (try dsimp only at hSw); go_simp
  try simp only [Act.put, List.setIfInBounds_toArray]
  refine wpAnyH_take (i := 1) (v := .int .i64 c) rfl (by kernel_rfl) (by kernel_rfl) (by kernel_rfl) (fun _ _ _ h => h) (Or.inl ⟨by rfl, ?_⟩) (by assumption) ?_
  · intro w hSw; (try dsimp only at hSw); go_simp
  try simp only [Act.put]
  refine wpAnyH_take (i := 2) (v := .pointer (some ⟨b1, 0, none⟩)) rfl (by kernel_rfl) (by kernel_rfl) (by kernel_rfl) (fun _ _ _ h => h) (Or.inl ⟨by rfl, ?_⟩) (by assumption) ?_
  · intro w hSw; (try dsimp only at hSw); go_simp
  try simp only [Act.put]
  refine wpAnyH_take (i := 3) (v := .int .i64 d) rfl (by kernel_rfl) (by kernel_rfl) (by kernel_rfl) (fun _ _ _ h => h) (Or.inl ⟨by rfl, ?_⟩) (by assumption) ?_
  · intro w hSw; (try dsimp only at hSw); go_simp
  try simp only [Act.put]
  refine wpAnyH_take (i := 4) (v := .int .i64 (min c d)) rfl (by kernel_rfl) (by kernel_rfl) (by kernel_rfl) (fun _ _ _ h => h) (Or.inl ⟨by rfl, ?_⟩) (by assumption) ?_
  · intro w hSw; (try dsimp only at hSw); go_simp
  try simp only [Act.put]
  refine wpAnyH_take (i := 5) (v := .pointer (some ⟨w.heap.size, 1, none⟩)) rfl (by kernel_rfl) (by kernel_rfl) (by kernel_rfl) (fun _ _ _ h => h) (Or.inl ⟨by rfl, ?_⟩) (by assumption) ?_
  · intro w hSw; (try dsimp only at hSw); go_simp
  try simp only [Act.put]
  refine wpAnyH_take (i := 6) (v := .int .i64 r) rfl (by kernel_rfl) (by kernel_rfl) (by kernel_rfl) (fun _ _ _ h => h) (Or.inl ⟨by rfl, ?_⟩) (by assumption) ?_
  · intro w hSw; (try dsimp only at hSw); go_simp
  try simp only [Act.put]
  refine wpAnyH_take (i := 7) (v := .pointer (some ⟨b1, 1, none⟩)) rfl (by kernel_rfl) (by kernel_rfl) (by kernel_rfl) (fun _ _ _ h => h) (Or.inl ⟨by rfl, ?_⟩) (by assumption) ?_
  · intro w hSw; (try dsimp only at hSw); go_simp
  try simp only [Act.put]
  refine wpAnyH_take (i := 8) (v := .int .i64 s) rfl (by kernel_rfl) (by kernel_rfl) (by kernel_rfl) (fun _ _ _ h => h) (Or.inl ⟨by rfl, ?_⟩) (by assumption) ?_
  · intro w hSw; (try dsimp only at hSw); go_simp
  try simp only [Act.put]
  refine wpAnyH_take (i := 9) (v := .int .i64 (min r s)) rfl (by kernel_rfl) (by kernel_rfl) (by kernel_rfl) (fun _ _ _ h => h) (Or.inl ⟨by rfl, ?_⟩) (by assumption) ?_
  · intro w hSw; (try dsimp only at hSw); go_simp
  try simp only [Act.put]
  refine wpAnyH_take (i := 10) (v := (Value.agg #[Value.int .i64 (min c d), Value.int .i64 (min r s), Value.bool false, Value.bool false])) rfl (by kernel_rfl) (by kernel_rfl) (by kernel_rfl) (fun _ _ _ h => h) (Or.inl ⟨by rfl, ?_⟩) (by assumption) ?_
  · intro w hSw; (try dsimp only at hSw); go_simp
  try simp only [Act.put]
  refine wpAnyH_take (i := 11) (v := .pointer (some ⟨w.heap.size, 0, none⟩)) rfl (by kernel_rfl) (by kernel_rfl) (by kernel_rfl) (fun _ _ _ h => h) (Or.inl ⟨by rfl, ?_⟩) (by assumption) ?_
  · intro w hSw; (try dsimp only at hSw); go_simp
  try simp only [Act.put]
  refine wpAnyH_take (i := 12) (v := .int .i64 c) rfl (by kernel_rfl) (by kernel_rfl) (by kernel_rfl) (fun _ _ _ h => h) (Or.inl ⟨by rfl, ?_⟩) (by assumption) ?_
  · intro w hSw; (try dsimp only at hSw); go_simp
  try simp only [Act.put]
  refine wpAnyH_take (i := 13) (v := .pointer (some ⟨b1, 0, none⟩)) rfl (by kernel_rfl) (by kernel_rfl) (by kernel_rfl) (fun _ _ _ h => h) (Or.inl ⟨by rfl, ?_⟩) (by assumption) ?_
  · intro w hSw; (try dsimp only at hSw); go_simp
  try simp only [Act.put]
  refine wpAnyH_take (i := 14) (v := .int .i64 d) rfl (by kernel_rfl) (by kernel_rfl) (by kernel_rfl) (fun _ _ _ h => h) (Or.inl ⟨by rfl, ?_⟩) (by assumption) ?_
  · intro w hSw; (try dsimp only at hSw); go_simp
  try simp only [Act.put]
  refine wpAnyH_take (i := 15) (v := .int .i64 (max c d)) rfl (by kernel_rfl) (by kernel_rfl) (by kernel_rfl) (fun _ _ _ h => h) (Or.inl ⟨by rfl, ?_⟩) (by assumption) ?_
  · intro w hSw; (try dsimp only at hSw); go_simp
  try simp only [Act.put]
  refine wpAnyH_take (i := 16) (v := .pointer (some ⟨w.heap.size, 1, none⟩)) rfl (by kernel_rfl) (by kernel_rfl) (by kernel_rfl) (fun _ _ _ h => h) (Or.inl ⟨by rfl, ?_⟩) (by assumption) ?_
  · intro w hSw; (try dsimp only at hSw); go_simp
  try simp only [Act.put]
  refine wpAnyH_take (i := 17) (v := .int .i64 r) rfl (by kernel_rfl) (by kernel_rfl) (by kernel_rfl) (fun _ _ _ h => h) (Or.inl ⟨by rfl, ?_⟩) (by assumption) ?_
  · intro w hSw; (try dsimp only at hSw); go_simp
  try simp only [Act.put]
  refine wpAnyH_take (i := 18) (v := .pointer (some ⟨b1, 1, none⟩)) rfl (by kernel_rfl) (by kernel_rfl) (by kernel_rfl) (fun _ _ _ h => h) (Or.inl ⟨by rfl, ?_⟩) (by assumption) ?_
  · intro w hSw; (try dsimp only at hSw); go_simp
  try simp only [Act.put]
  refine wpAnyH_take (i := 19) (v := .int .i64 s) rfl (by kernel_rfl) (by kernel_rfl) (by kernel_rfl) (fun _ _ _ h => h) (Or.inl ⟨by rfl, ?_⟩) (by assumption) ?_
  · intro w hSw; (try dsimp only at hSw); go_simp
  try simp only [Act.put]
  refine wpAnyH_take (i := 20) (v := .int .i64 (max r s)) rfl (by kernel_rfl) (by kernel_rfl) (by kernel_rfl) (fun _ _ _ h => h) (Or.inl ⟨by rfl, ?_⟩) (by assumption) ?_
  · intro w hSw; (try dsimp only at hSw); go_simp
  try simp only [Act.put]
  refine wpAnyH_take (i := 21) (v := (Value.agg #[Value.int .i64 (max c d), Value.int .i64 (max r s), Value.bool false, Value.bool false])) rfl (by kernel_rfl) (by kernel_rfl) (by kernel_rfl) (fun _ _ _ h => h) (Or.inl ⟨by rfl, ?_⟩) (by assumption) ?_
  · intro w hSw; (try dsimp only at hSw); go_simp
  try simp only [Act.put]
  refine wpAnyH_ready (rs := [22]) (by kernel_rfl) (by simp) ?_
  refine AllReadyH.cons rfl (fun K hK => ?_) AllReadyH.nil
  · go_simp
    refine hK.out _ _ ?_ (fun hHeld => ?_)
    · (try dsimp only); simp [*, World.cell?_setCell_far]
    clear hK K
    try simp only [Act.put, List.setIfInBounds_toArray, List.set_cons_zero, List.set_cons_succ]
    refine wpAnyH_ready (rs := [23]) (by kernel_rfl) (by simp) ?_
    refine AllReadyH.cons rfl (fun K hK => ?_) AllReadyH.nil
    go_simp
    refine hK.out _ _ ?_ (fun hHeld => ?_)
    · (try dsimp only); simp [*, World.cell?_setCell_far]
    clear hK K
    try simp only [Act.put, List.setIfInBounds_toArray, List.set_cons_zero, List.set_cons_succ]
    refine wpAnyH_done (by kernel_rfl) ?_ _
    have q2 : BoxR W b2 0 0 false false := ⟨a8, a9, a10, a11⟩
    have q3 : BoxR W b3 0 0 false false := ⟨a12, a13, a14, a15⟩
    have s2 : BoxR ((((((((W.setCell ⟨b2, 0, none⟩ (.int .i64 (min c d))).setCell ⟨b2, 1, none⟩ (.int .i64 (min r s))).setCell ⟨b2, 2, none⟩ (.bool false)).setCell ⟨b2, 3, none⟩ (.bool false)).setCell ⟨b3, 0, none⟩ (.int .i64 (max c d))).setCell ⟨b3, 1, none⟩ (.int .i64 (max r s))).setCell ⟨b3, 2, none⟩ (.bool false)).setCell ⟨b3, 3, none⟩ (.bool false)).drew b2 (min c d) (min r s) false false := BoxR.drew (((((q2.set4 (min c d) (min r s) false false).far n1.symm).far n1.symm).far n1.symm).far n1.symm)
    have s3 : BoxR ((((((((W.setCell ⟨b2, 0, none⟩ (.int .i64 (min c d))).setCell ⟨b2, 1, none⟩ (.int .i64 (min r s))).setCell ⟨b2, 2, none⟩ (.bool false)).setCell ⟨b2, 3, none⟩ (.bool false)).setCell ⟨b3, 0, none⟩ (.int .i64 (max c d))).setCell ⟨b3, 1, none⟩ (.int .i64 (max r s))).setCell ⟨b3, 2, none⟩ (.bool false)).setCell ⟨b3, 3, none⟩ (.bool false)).drew b3 (max c d) (max r s) false false := BoxR.drew (((((q3.far n1).far n1).far n1).far n1).set4 (max c d) (max r s) false false)
    have hB := HB.out
    have l2 : w.heap.size ≤ b2 := by omega
    have l3 : w.heap.size ≤ b3 := by omega
    have hz : Below w.heap.size w ((((((((W.setCell ⟨b2, 0, none⟩ (.int .i64 (min c d))).setCell ⟨b2, 1, none⟩ (.int .i64 (min r s))).setCell ⟨b2, 2, none⟩ (.bool false)).setCell ⟨b2, 3, none⟩ (.bool false)).setCell ⟨b3, 0, none⟩ (.int .i64 (max c d))).setCell ⟨b3, 1, none⟩ (.int .i64 (max r s))).setCell ⟨b3, 2, none⟩ (.bool false)).setCell ⟨b3, 3, none⟩ (.bool false)).drew := ((((((((hB.setCell l2 _).setCell l2 _).setCell l2 _).setCell l2 _).setCell l3 _).setCell l3 _).setCell l3 _).setCell l3 _).drew
    generalize ((((((((W.setCell ⟨b2, 0, none⟩ (.int .i64 (min c d))).setCell ⟨b2, 1, none⟩ (.int .i64 (min r s))).setCell ⟨b2, 2, none⟩ (.bool false)).setCell ⟨b2, 3, none⟩ (.bool false)).setCell ⟨b3, 0, none⟩ (.int .i64 (max c d))).setCell ⟨b3, 1, none⟩ (.int .i64 (max r s))).setCell ⟨b3, 2, none⟩ (.bool false)).setCell ⟨b3, 3, none⟩ (.bool false)).drew = W5 at *
    clear a0 a1 a4 a5 a8 a9 a10 a11 a12 a13 a14 a15 g0 g1 g2 g3 g4 g5 g6 g7 q2 q3 hHeld
    obtain ⟨a8, a9, a10, a11⟩ := s2
    obtain ⟨a12, a13, a14, a15⟩ := s3
    have HZ := Lib.hid hz
    clear hz hB HB l2 l3 n2 n3 n4 n5
    go_wp2
    refine bodyPost_ret (v := .tuple #[(Value.agg #[Value.int .i64 (min c d), Value.int .i64 (min r s), Value.bool false, Value.bool false]), (Value.agg #[Value.int .i64 (max c d), Value.int .i64 (max r s), Value.bool false, Value.bool false])]) (by simp [results, Tryd.results37, go_sem, *]) rfl ⟨rfl, HZ.out⟩
end Go.Proofs.YtikcggbkkgipoaaDoor
