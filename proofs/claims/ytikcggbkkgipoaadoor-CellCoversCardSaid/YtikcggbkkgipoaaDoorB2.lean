/-
  Package cell: Cells: the iterator over an area.
-/
import Derived.Test.YtikcggbkkgipoaaDoorB1
namespace Go.Proofs.YtikcggbkkgipoaaDoor
open Go.RowKit Go.Shelf
attribute [local go_sem] Oper.semAt_some

/-- What a step that is not the caller's leaves: below B, and the caller's far block, lie as they lay. -/
structure Fr (B : Nat) (g : Option Nat) (W W' : World) : Prop where
  os : W'.os = W.os
  tape : W'.tape = W.tape
  output : W'.output = W.output
  size : W.heap.size ≤ W'.heap.size
  block : ∀ k, k < B ∨ some k = g → W'.heap[k]? = W.heap[k]?
/-- What a round of the caller's leaves: it writes below B and in its far block alone; a far block of its own is new. -/
structure Rd (B : Nat) (g g' : Option Nat) (W W' : World) : Prop where
  far : g' = g ∨ ∃ k, g' = some k ∧ W.heap.size ≤ k
  size : W.heap.size ≤ W'.heap.size
  block : ∀ k, B ≤ k → some k ≠ g → k < W.heap.size → W'.heap[k]? = W.heap[k]?
/-- The cells of one row; of rows. -/
def rowL (C : Int) (n : Nat) (x : Int) : List (Int × Int) := (upto C n).map (fun y => (y, x))
def gridL (C : Int) (n : Nat) (xs : List Int) : List (Int × Int) := xs.flatMap (rowL C n)
/-- The cells of an area, row by row. -/
def cellsL (c r d s : Int) : List (Int × Int) :=
  if (rgt c r && rgt d s) = true then gridL (min c d) (span (min c d) (max c d)) (upto (min r s) (span (min r s) (max r s))) else []
/-- What the iterator over an area asks of its caller: J between two rounds, Jx where a round has said 'no more'. -/
structure Caller (l B : Nat) (J Jx : List (Int × Int) → Option Nat → World → Prop) (N : Nat) : Prop where
  hJ : ∀ pre g W W', J pre g W → Fr B g W W' → J pre g W'
  hJx : ∀ pre g W W', Jx pre g W → Fr B g W W' → Jx pre g W'
  hg : ∀ pre k W, J pre (some k) W → ∃ cs m, W.heap[k]? = some (.cells cs 23 m)
  hgx : ∀ pre k W, Jx pre (some k) W → ∃ cs m, W.heap[k]? = some (.cells cs 23 m)
  hY : ∀ m pre g x W, J pre g W → pre.length < N → YieldAt Fence.wide m Tryd.prog l #[(Value.agg #[Value.int .i64 (x.1), Value.int .i64 (x.2), Value.bool false, Value.bool false])] W fun e W' => ∃ g', Rd B g g' W W' ∧
      ((e = .returned (.bool true) ∧ J (pre ++ [x]) g' W') ∨ (e = .returned (.bool false) ∧ Jx (pre ++ [x]) g' W'))
theorem far_lt {W : World} {k t : Nat} {cs : Array Value} {m : Nat × Nat} (h : W.heap[k]? = some (.cells cs t m)) : k < W.heap.size := (Array.getElem?_eq_some_iff.1 h).1
theorem Fr.below {B : Nat} {g : Option Nat} {W W' : World} (h : Below W.heap.size W W') (hB : B ≤ W.heap.size) (hg : ∀ k, g = some k → k < W.heap.size) : Fr B g W W' :=
  ⟨h.os, h.tape, h.output, h.size, fun k hk => h.block k (by rcases hk with hk | hk; omega; exact hg k hk.symm)⟩
theorem Fr.grown {B : Nat} {g : Option Nat} {W W' : World} {row : Option Nat} (h : W.grownBy W' row) (hr : ∀ r, row = some r → B ≤ r ∧ ∃ o : Obj, W.heap[r]? = some o ∧ o.isCells = false) (hB : B ≤ W.heap.size)
    (hg : ∀ k, g = some k → ∃ cs t m, W.heap[k]? = some (.cells cs t m)) : Fr B g W W' :=
  ⟨h.os, h.tape, h.output, h.size, fun k hk => by
    rcases hk with hk | hk
    · exact h.block k (by omega) (fun e => by have := (hr k e.symm).1; omega)
    · obtain ⟨cs, t, m, hc⟩ := hg k hk.symm
      exact h.block k (Array.getElem?_eq_some_iff.1 hc).1 (fun e => by
        obtain ⟨_, o, ho, hn⟩ := hr k e.symm
        rw [hc] at ho; cases ho; cases hn)⟩
theorem Caller.below {l B N : Nat} {J Jx : List (Int × Int) → Option Nat → World → Prop} (hC : Caller l B J Jx N) {pre : List (Int × Int)} {g : Option Nat} {W W' : World} (hj : J pre g W) (h : Below W.heap.size W W') (hB : B ≤ W.heap.size) : J pre g W' :=
  hC.hJ _ _ _ _ hj (Fr.below h hB (fun k e => by subst e; obtain ⟨cs, m, hc⟩ := hC.hg _ _ _ hj; exact far_lt hc))
theorem Caller.grown {l B N : Nat} {J Jx : List (Int × Int) → Option Nat → World → Prop} (hC : Caller l B J Jx N) {pre : List (Int × Int)} {g : Option Nat} {W W' : World} {row : Option Nat} (hj : J pre g W) (h : W.grownBy W' row)
    (hr : ∀ r, row = some r → B ≤ r ∧ ∃ o : Obj, W.heap[r]? = some o ∧ o.isCells = false) (hB : B ≤ W.heap.size) : J pre g W' :=
  hC.hJ _ _ _ _ hj (Fr.grown h hr hB (fun k e => by subst e; obtain ⟨cs, m, hc⟩ := hC.hg _ _ _ hj; exact ⟨cs, _, m, hc⟩))
theorem Caller.grownx {l B N : Nat} {J Jx : List (Int × Int) → Option Nat → World → Prop} (hC : Caller l B J Jx N) {pre : List (Int × Int)} {g : Option Nat} {W W' : World} {row : Option Nat} (hj : Jx pre g W) (h : W.grownBy W' row)
    (hr : ∀ r, row = some r → B ≤ r ∧ ∃ o : Obj, W.heap[r]? = some o ∧ o.isCells = false) (hB : B ≤ W.heap.size) : Jx pre g W' :=
  hC.hJx _ _ _ _ hj (Fr.grown h hr hB (fun k e => by subst e; obtain ⟨cs, m, hc⟩ := hC.hgx _ _ _ hj; exact ⟨cs, _, m, hc⟩))
/-- Blocks lie as is said, and none is the caller's far block. -/
structure Lie (L : List (Nat × Array Value × TypeId)) (g : Option Nat) (W : World) : Prop where
  lie : ∀ p ∈ L, W.heap[p.1]? = some (.cells p.2.1 p.2.2 (0, 0))
  far : ∀ p ∈ L, some p.1 ≠ g
theorem Lie.lt {L : List (Nat × Array Value × TypeId)} {g : Option Nat} {W : World} (h : Lie L g W) {p : Nat × Array Value × TypeId} (hp : p ∈ L) : p.1 < W.heap.size := far_lt (h.lie p hp)
theorem Lie.below {L : List (Nat × Array Value × TypeId)} {g : Option Nat} {W W' : World} (h : Lie L g W) (hb : Below W.heap.size W W') : Lie L g W' :=
  ⟨fun p hp => (hb.block _ (h.lt hp)).trans (h.lie p hp), h.far⟩
theorem Lie.grown {L : List (Nat × Array Value × TypeId)} {g : Option Nat} {W W' : World} {row : Option Nat} (h : Lie L g W) (hb : W.grownBy W' row) (hr : ∀ r, row = some r → ∃ o : Obj, W.heap[r]? = some o ∧ o.isCells = false) : Lie L g W' :=
  ⟨fun p hp => (hb.block _ (h.lt hp) (fun e => by
    obtain ⟨o, ho, hn⟩ := hr _ e.symm
    rw [h.lie p hp] at ho; cases ho; cases hn)).trans (h.lie p hp), h.far⟩
theorem Lie.rd {L : List (Nat × Array Value × TypeId)} {B : Nat} {g g' : Option Nat} {W W' : World} (h : Lie L g W) (hL : ∀ p ∈ L, B ≤ p.1) (hr : Rd B g g' W W') : Lie L g' W' :=
  ⟨fun p hp => (hr.block _ (hL p hp) (h.far p hp) (h.lt hp)).trans (h.lie p hp), fun p hp => by
    rcases hr.far with e | ⟨k, e, hk⟩
    · rw [e]; exact h.far p hp
    · rw [e]; have := h.lt hp; intro e'; cases e'; omega⟩
theorem Lie.cons {L : List (Nat × Array Value × TypeId)} {g : Option Nat} {W : World} {b t : Nat} {cs : Array Value} (h : Lie L g W) (hb : W.heap[b]? = some (.cells cs t (0, 0))) (hg : some b ≠ g) : Lie ((b, cs, t) :: L) g W :=
  ⟨fun p hp => by rcases List.mem_cons.1 hp with rfl | hp; exact hb; exact h.lie p hp, fun p hp => by rcases List.mem_cons.1 hp with rfl | hp; exact hg; exact h.far p hp⟩
theorem Lie.tail {L : List (Nat × Array Value × TypeId)} {g : Option Nat} {W : World} {p : Nat × Array Value × TypeId} (h : Lie (p :: L) g W) : Lie L g W :=
  ⟨fun q hq => h.lie q (List.mem_cons_of_mem _ hq), fun q hq => h.far q (List.mem_cons_of_mem _ hq)⟩
theorem cell_of_block {W : World} {b t j : Nat} {cs : Array Value} {v : Value} (h : W.heap[b]? = some (.cells cs t (0, 0))) (hv : cs[j]? = some v) : W.cell? ⟨b, j, none⟩ = some v := by
  simp [World.cell?, h, hv]
/-- Behind a round of the caller's: what is no cells, from B' on, lies as it lay. -/
theorem Rd.keeps {B B' : Nat} {g g' : Option Nat} {W W' : World} (h : Rd B g g' W W') (hB : B ≤ B') (hg : ∀ k, g = some k → ∃ cs m, W.heap[k]? = some (.cells cs 23 m)) : KeepsFrom B' W W' :=
  ⟨h.size, fun k o hk hko ho => by
    refine (h.block k (by omega) (fun e => ?_) (Array.getElem?_eq_some_iff.1 hko).1).trans hko
    obtain ⟨cs, m, hc⟩ := hg k e.symm
    rw [hc] at hko; cases hko; cases ho⟩
theorem Keep2.ofLie {L : List (Nat × Array Value × TypeId)} {g g' : Option Nat} {W W' : World} {b1 b2 t1 t2 : Nat} {c1 c2 : Array Value} (h : Lie L g W) (h' : Lie L g' W') (h1 : (b1, c1, t1) ∈ L) (h2 : (b2, c2, t2) ∈ L) : Keep2 b1 b2 W W' :=
  ⟨World.cell?_of_block (w := W) ((h'.lie _ h1).trans (h.lie _ h1).symm), World.cell?_of_block (w := W) ((h'.lie _ h2).trans (h.lie _ h2).symm)⟩
/-- The blocks of an iterator over an area: yield's box; the two corners; the two boxes of the rows' iterator. -/
def boxesL (l bY n : Nat) (C R D S : Int) : List (Nat × Array Value × TypeId) :=
  [(bY, #[Value.func (.yield l) #[] #[]], 28), (n, #[Value.int .i64 C, Value.int .i64 R, Value.bool false, Value.bool false], 23), (n + 1, #[Value.int .i64 D, Value.int .i64 S, Value.bool false, Value.bool false], 23), (n + 1 + 1, #[Value.int .i64 R], 3), (n + 1 + 1 + 1, #[Value.int .i64 S], 3)]
theorem boxesL_all {l bY n : Nat} {C R D S : Int} {P : Nat × Array Value × TypeId → Prop} (h1 : P (bY, #[Value.func (.yield l) #[] #[]], 28)) (h2 : P (n, #[Value.int .i64 C, Value.int .i64 R, Value.bool false, Value.bool false], 23)) (h3 : P (n + 1, #[Value.int .i64 D, Value.int .i64 S, Value.bool false, Value.bool false], 23)) (h4 : P (n + 1 + 1, #[Value.int .i64 R], 3)) (h5 : P (n + 1 + 1 + 1, #[Value.int .i64 S], 3)) : ∀ p ∈ boxesL l bY n C R D S, P p := by
  intro p hp
  simp only [boxesL, List.mem_cons, List.not_mem_nil, or_false] at hp
  rcases hp with rfl | rfl | rfl | rfl | rfl <;> assumption
theorem Lie.b1 {l bY n : Nat} {C R D S : Int} {g : Option Nat} {W : World} (h : Lie (boxesL l bY n C R D S) g W) : W.heap[bY]? = some (.cells #[Value.func (.yield l) #[] #[]] 28 (0, 0)) := h.lie (bY, #[Value.func (.yield l) #[] #[]], 28) (by simp [boxesL])
theorem Lie.b2 {l bY n : Nat} {C R D S : Int} {g : Option Nat} {W : World} (h : Lie (boxesL l bY n C R D S) g W) : W.heap[n]? = some (.cells #[Value.int .i64 C, Value.int .i64 R, Value.bool false, Value.bool false] 23 (0, 0)) := h.lie (n, #[Value.int .i64 C, Value.int .i64 R, Value.bool false, Value.bool false], 23) (by simp [boxesL])
theorem Lie.b3 {l bY n : Nat} {C R D S : Int} {g : Option Nat} {W : World} (h : Lie (boxesL l bY n C R D S) g W) : W.heap[n + 1]? = some (.cells #[Value.int .i64 D, Value.int .i64 S, Value.bool false, Value.bool false] 23 (0, 0)) := h.lie (n + 1, #[Value.int .i64 D, Value.int .i64 S, Value.bool false, Value.bool false], 23) (by simp [boxesL])
theorem Lie.b4 {l bY n : Nat} {C R D S : Int} {g : Option Nat} {W : World} (h : Lie (boxesL l bY n C R D S) g W) : W.heap[n + 1 + 1]? = some (.cells #[Value.int .i64 R] 3 (0, 0)) := h.lie (n + 1 + 1, #[Value.int .i64 R], 3) (by simp [boxesL])
theorem Lie.b5 {l bY n : Nat} {C R D S : Int} {g : Option Nat} {W : World} (h : Lie (boxesL l bY n C R D S) g W) : W.heap[n + 1 + 1 + 1]? = some (.cells #[Value.int .i64 S] 3 (0, 0)) := h.lie (n + 1 + 1 + 1, #[Value.int .i64 S], 3) (by simp [boxesL])
theorem boxesL_k {l bY n : Nat} {C R D S : Int} {g g' : Option Nat} {W W' : World} (h : Lie (boxesL l bY n C R D S) g W) (h' : Lie (boxesL l bY n C R D S) g' W') : Keep2 (n + 1 + 1) (n + 1 + 1 + 1) W W' :=
  ⟨World.cell?_of_block (w := W) (h'.b4.trans h.b4.symm), World.cell?_of_block (w := W) (h'.b5.trans h.b5.symm)⟩
theorem gridL_snoc (C : Int) (n : Nat) (xs : List Int) (x : Int) : gridL C n (xs ++ [x]) = gridL C n xs ++ rowL C n x := by simp [gridL]
theorem gridL_length (C : Int) (n : Nat) (xs : List Int) : (gridL C n xs).length = xs.length * n := by
  induction xs with
  | nil => simp [gridL]
  | cons a xs ih => unfold gridL at *; rw [List.flatMap_cons, List.length_append, ih]; simp [rowL, upto_length, Nat.add_mul, Nat.add_comm]
theorem gridL_prefix (C : Int) (n : Nat) {xs ys : List Int} (h : xs <+: ys) : gridL C n xs <+: gridL C n ys := by
  obtain ⟨t, rfl⟩ := h; exact ⟨gridL C n t, by simp [gridL]⟩
set_option maxRecDepth 100000 in
set_option maxHeartbeats 4000000 in
theorem cells1 {l B : Nat} {J Jx : List (Int × Int) → Option Nat → World → Prop} (c r d s : Int) (x y u v : Bool) (hC : Caller l B J Jx (cellsL c r d s).length)
    (pa pb : Nat) (g0 : Option Nat) (w : World) (hB : B ≤ w.heap.size) (ha : BoxR w pa c r x y) (hb : BoxR w pb d s u v) (la : pa < w.heap.size) (lb : pb < w.heap.size) (h0 : J [] g0 w) :
    CallsIn Fence.wide 9 Tryd.prog 41 #[.func (.yield l) #[] #[], .pointer (some ⟨pa, 0, none⟩), .pointer (some ⟨pb, 0, none⟩)] w fun e W' => (∃ v, e = .returned v) ∧
      ∃ g, J (cellsL c r d s) g W' ∨ ∃ pre, pre <+: cellsL c r d s ∧ Jx pre g W' := by
  have bY := Boxed.new w 28 (.func (.yield l) #[] #[])
  obtain ⟨W0, hW0⟩ : ∃ W0, w.alloc (.cells #[.func (.yield l) #[] #[]] 28) = W0 := ⟨_, rfl⟩
  have hb0 : Below w.heap.size w W0 := by rw [← hW0]; exact (Below.refl _ _).alloc (Nat.le_refl _) _
  have s0 : W0.heap.size = w.heap.size + 1 := by rw [← hW0]; simp
  rw [hW0] at bY
  have A0 := ha.on hb0 la
  have B0 := hb.on hb0 lb
  have HA := Lib.hid A0
  have HBb := Lib.hid B0
  obtain ⟨a0, a1, a2, a3⟩ := A0
  obtain ⟨a4, a5, a6, a7⟩ := B0
  by_cases g1 : rgt c r = true
  · by_cases g2 : rgt d s = true
    · obtain ⟨c0, c1, r0, r1⟩ := rgt_iff.1 g1
      obtain ⟨d0, d1, e0, e1⟩ := rgt_iff.1 g2
      have hcl : cellsL c r d s = gridL (min c d) (span (min c d) (max c d)) (upto (min r s) (span (min r s) (max r s))) := by
        unfold cellsL; rw [g1, g2]; exact if_pos rfl
      rw [hcl] at hC ⊢
      have CO := fun W => corners_any c r d s x y u v W
      have kC : 0 ≤ min c d ∧ min c d ≤ max c d ∧ max c d < 64 := by omega
      have kR : 0 ≤ min r s ∧ min r s ≤ max r s ∧ max r s < 1000 := by omega
      clear c0 c1 r0 r1 d0 d1 e0 e1 hcl
      generalize min c d = C at *
      generalize max c d = D at *
      generalize min r s = R at *
      generalize max r s = S at *
      have KC := Lib.hid kC; have KR := Lib.hid kR; have CO := Lib.hid CO
      clear kC kR
      have R1 := right_any c r x y W0
      rw [g1] at R1
      refine callsIn_of_wp_marks Tryd.func41 rfl trivial ?_ rfl
      simp only [Tryd.ntmps41, List.size_toArray, List.length_cons, List.length_nil, Nat.reduceAdd, Nat.reduceSub, Array.replicate_succ, Array.replicate_zero, List.push_toArray, List.append_toArray, List.nil_append, List.cons_append]
      gi_wp2_with fail
      refine ⟨trivial, callsIn_wide.2 (R1.mono ?_)⟩
      rintro en w2 ⟨rfl, hb2⟩
      clear R1 a0 a1 a2 a3 a4 a5 a6 a7
      have hs2 := hb2.size
      have A2 := HA.out.on hb2 (by omega)
      have B2 := HBb.out.on hb2 (by omega)
      have hY2 : Boxed w2 w.heap.size 28 (.func (.yield l) #[] #[]) := (hb2.block _ (by omega)).trans bY
      have hz2 := via hb0 hb2
      clear hb2 bY hb0 HA HBb
      have HA := Lib.hid A2; have HBb := Lib.hid B2
      obtain ⟨a0, a1, a2, a3⟩ := A2
      obtain ⟨a4, a5, a6, a7⟩ := B2
      have R2 := right_any d s u v w2
      rw [g2] at R2
      gi_wp2_with fail
      refine ⟨trivial, callsIn_wide.2 (R2.mono ?_)⟩
      rintro en w3 ⟨rfl, hb3⟩
      clear R2 a0 a1 a2 a3 a4 a5 a6 a7
      have hs3 := hb3.size
      have A3 := HA.out.on hb3 (by omega)
      have B3 := HBb.out.on hb3 (by omega)
      have hY3 : Boxed w3 w.heap.size 28 (.func (.yield l) #[] #[]) := (hb3.block _ (by omega)).trans hY2
      have hz3 := via hz2 hb3
      clear hb3 hY2 hz2 HA HBb
      obtain ⟨a0, a1, a2, a3⟩ := A3
      obtain ⟨a4, a5, a6, a7⟩ := B3
      gi_wp2_with fail
      refine ⟨trivial, callsIn_wide.2 ((CO.out w3).mono ?_)⟩
      rintro en w4 ⟨rfl, hb4⟩
      clear CO a0 a1 a2 a3 a4 a5 a6 a7
      have hs4 := hb4.size
      have hY4 : Boxed w4 w.heap.size 28 (.func (.yield l) #[] #[]) := (hb4.block _ (by omega)).trans hY3
      have hz4 := via hz3 hb4
      clear hb4 hY3 hz3
      gi_wp2_with fail
      refine ⟨trivial, (between_call Fence.wide 8 trivial rfl R S _).mono ?_⟩
      rintro en w5 ⟨rfl, hW5⟩
      simp only [World.size_alloc] at hW5 ⊢
      have hj5 : J [] g0 w4 := hC.below h0 hz4 hB
      have hgs : ∀ k, g0 = some k → k < w.heap.size := fun k e => by subst e; obtain ⟨cs, m, hc⟩ := hC.hg _ _ _ h0; exact far_lt hc
      have hL5 : Lie (boxesL l w.heap.size w4.heap.size C R D S) g0 w5 := by
        have y1 : w4.heap[w.heap.size]? = some (.cells #[.func (.yield l) #[] #[]] 28 (0, 0)) := hY4
        have f1 := World.alloc_heap_new w4 (.cells #[.int .i64 C, .int .i64 R, .bool false, .bool false] 23 (0, 0))
        have f2 := World.alloc_heap_new (w4.alloc (.cells #[.int .i64 C, .int .i64 R, .bool false, .bool false] 23)) (.cells #[.int .i64 D, .int .i64 S, .bool false, .bool false] 23 (0, 0))
        have f3 := World.alloc_heap_new ((w4.alloc (.cells #[.int .i64 C, .int .i64 R, .bool false, .bool false] 23)).alloc (.cells #[.int .i64 D, .int .i64 S, .bool false, .bool false] 23)) (.cells #[.int .i64 R] 3 (0, 0))
        have f4 := World.alloc_heap_new (((w4.alloc (.cells #[.int .i64 C, .int .i64 R, .bool false, .bool false] 23)).alloc (.cells #[.int .i64 D, .int .i64 S, .bool false, .bool false] 23)).alloc (.cells #[.int .i64 R] 3)) (.cells #[.int .i64 S] 3 (0, 0))
        simp only [World.size_alloc] at f2 f3 f4
        rw [hW5]
        refine ⟨?_, ?_⟩
        · refine boxesL_all ?_ ?_ ?_ ?_ ?_
          · exact (Below.heap_alloc _ _ _ (by simp <;> omega)).trans ((Below.heap_alloc _ _ _ (by simp <;> omega)).trans ((Below.heap_alloc _ _ _ (by simp <;> omega)).trans ((Below.heap_alloc _ _ _ (by simp only; omega)).trans y1)))
          · exact (Below.heap_alloc _ _ _ (by simp <;> omega)).trans ((Below.heap_alloc _ _ _ (by simp <;> omega)).trans ((Below.heap_alloc _ _ _ (by simp)).trans f1))
          · exact (Below.heap_alloc _ _ _ (by simp <;> omega)).trans ((Below.heap_alloc _ _ _ (by simp)).trans f2)
          · exact (Below.heap_alloc _ _ _ (by simp)).trans f3
          · exact f4
        · refine boxesL_all ?_ ?_ ?_ ?_ ?_ <;> (intro e; have := hgs _ e.symm; omega)
      have s5 : w5.heap.size = w4.heap.size + 4 := by rw [hW5]; simp
      have hz5 : Below w4.heap.size w4 w5 := by rw [hW5]; (repeat' first | exact Below.refl _ _ | refine Below.alloc ?_ ?_ _ | refine Below.setCell ?_ ?_ _ | refine below_drewN ?_ _ | (simp; done) | (simp; omega))
      have hj : J [] g0 w5 := hC.below hj5 hz5 (by omega)
      clear hj5 hz5 hz4 hY4 hW5 hgs h0 ha hb CO
      have KC0 := KC.out; have KR0 := KR.out
      have LB : ∀ p ∈ (boxesL l w.heap.size w4.heap.size C R D S), B ≤ p.1 := by
        refine boxesL_all ?_ ?_ ?_ ?_ ?_ <;> (simp only; omega)
      gi_wp2
      refine wpIn_rangeFunc_ownH rfl (by omega) (gf := 44) (lb := #[.pointer (some ⟨w4.heap.size + 1 + 1, 0, none⟩), .pointer (some ⟨w4.heap.size + 1 + 1 + 1, 0, none⟩)]) rfl trivial (enters_of Tryd.func44 (by kernel_rfl) rfl)
        (between_stops Fence.wide (9 - 1) trivial rfl (by omega) (w4.heap.size + 1 + 1) (w4.heap.size + 1 + 1 + 1) R S (by omega) (by omega) (by omega) w5 (by omega) (by omega) (cell_of_block hL5.b4 rfl) (cell_of_block hL5.b5 rfl))
        Keep2.t (Keep2.b (by omega) (by omega)) (Below.refl _ _) (fun _ => rfl)
        (fun pre W => ∃ g, J (gridL C (span C D) pre) g W ∧ Lie (boxesL l w.heap.size w4.heap.size C R D S) g W)
        (fun c pre W => c = .ret ∧ ∃ g q, q <+: gridL C (span C D) pre ∧ Jx q g W ∧ B ≤ W.heap.size)
        (fun s X Y row hs hg hr => by
          obtain ⟨g, j, lie⟩ := hs
          exact ⟨g, hC.grown j hg (fun r e => ⟨by have := (hr r e).1; omega, (hr r e).2⟩) (by have := far_lt lie.b2; omega), lie.grown hg (fun r e => (hr r e).2)⟩)
        (fun c s X Y row hs hg hr => by
          obtain ⟨hc, g, q, hq, j, hBX⟩ := hs
          exact ⟨hc, g, q, hq, hC.grownx j hg (fun r e => ⟨by have := (hr r e).1; omega, (hr r e).2⟩) hBX, Nat.le_trans hBX hg.size⟩)
        ⟨g0, hj, hL5⟩
        (fun z a' W => ∃ Bx, w4.heap.size + 4 ≤ Bx ∧ Boxed W Bx 3 (.int .i64 z) ∧ a' = { tmps := #[.func (.yield l) #[] #[], .pointer (some ⟨pa, 0, none⟩), .pointer (some ⟨pb, 0, none⟩), .pointer (some ⟨w.heap.size, 0, none⟩), .pointer (some ⟨w4.heap.size, 0, none⟩), .pointer (some ⟨w4.heap.size + 1, 0, none⟩), .pointer (some ⟨Bx, 0, none⟩), undef, (Value.agg #[Value.int .i64 (c), Value.int .i64 (r), Value.bool x, Value.bool y]), .bool true, .bool false, .bool false, (Value.agg #[Value.int .i64 (d), Value.int .i64 (s), Value.bool u, Value.bool v]), .bool true, .bool false, .bool false, .tuple #[(Value.agg #[Value.int .i64 (C), Value.int .i64 (R), Value.bool false, Value.bool false]), (Value.agg #[Value.int .i64 (D), Value.int .i64 (S), Value.bool false, Value.bool false])], (Value.agg #[Value.int .i64 (c), Value.int .i64 (r), Value.bool x, Value.bool y]), (Value.agg #[Value.int .i64 (d), Value.int .i64 (s), Value.bool u, Value.bool v]), .tuple #[(Value.agg #[Value.int .i64 (C), Value.int .i64 (R), Value.bool false, Value.bool false]), (Value.agg #[Value.int .i64 (D), Value.int .i64 (S), Value.bool false, Value.bool false])], (Value.agg #[Value.int .i64 (C), Value.int .i64 (R), Value.bool false, Value.bool false]), (Value.agg #[Value.int .i64 (D), Value.int .i64 (S), Value.bool false, Value.bool false]), .pointer (some ⟨w4.heap.size, 1, none⟩), .int .i64 R, .pointer (some ⟨w4.heap.size + 1, 1, none⟩), .int .i64 S, .func (.func 44) #[] #[.pointer (some ⟨w4.heap.size + 1 + 1, 0, none⟩), .pointer (some ⟨w4.heap.size + 1 + 1 + 1, 0, none⟩)], .int .i64 z, undef, undef, undef, undef, undef, undef, undef, undef, undef, undef, undef, undef], defers := [] })
        (fun z a' _ X Y row hs hg hr => by obtain ⟨Bx, e1, e2, e3⟩ := hs; exact ⟨Bx, e1, boxed_own Bx 3 (fun (_ : Unit) => Value.int .i64 z) () X Y row e2 hg (fun r e => (hr r e).2), e3⟩)
        ?assign ?body ?done ?stop
      case assign =>
        rintro l2 pre z W K ⟨g, j, lie⟩ hK
        have hsW := far_lt lie.b5
        gi_wp2
        have hba : Below W.heap.size W (W.alloc (.cells #[.int .i64 z] 3)) := (Below.refl _ W).alloc (Nat.le_refl _) _
        have lie' := lie.below hba
        exact hK _ _ ((KeepsOthers.alloc _ _).from _) (boxesL_k lie lie') ⟨g, hC.below j hba (by omega), lie'⟩ ⟨W.heap.size, by omega, Boxed.new W 3 _, rfl⟩
      case body =>
        rintro l2 pre z a' W hl2 ⟨rr, hrr⟩ ⟨g, j, lie⟩ ⟨Bx, hBx, bX, rfl⟩ hlt
        have hsW := far_lt lie.b5
        have bXh : W.heap[Bx]? = some (.cells #[Value.int .i64 z] 3 (0, 0)) := bX
        have hXg : some Bx ≠ g := by
          intro e; subst e
          obtain ⟨cs, m, hc⟩ := hC.hg _ _ _ j
          rw [bXh] at hc; cases hc
        have q0 : W.cell? ⟨w4.heap.size, 0, none⟩ = some (.int .i64 C) := cell_of_block lie.b2 rfl
        have q1 : W.cell? ⟨w4.heap.size + 1, 0, none⟩ = some (.int .i64 D) := cell_of_block lie.b3 rfl
        gi_wp2_with fail
        refine ⟨trivial, (CallsIn.inRound l2 (between_call Fence.wide _ trivial rfl C D _)).mono ?_⟩
        rintro en w6 ⟨rfl, hW6⟩
        have hba : Below W.heap.size W w6 := by rw [hW6]; (repeat' first | exact Below.refl _ _ | refine Below.alloc ?_ ?_ _ | refine Below.setCell ?_ ?_ _ | refine below_drewN ?_ _ | (simp; done) | (simp; omega))
        have s6 : w6.heap.size = W.heap.size + 2 := by rw [hW6]; simp
        have kf6 : KeepsFrom w5.heap.size W w6 := by rw [hW6]; exact ((KeepsOthers.alloc _ _).trans (KeepsOthers.alloc _ _)).from _
        have gs : ∀ k, g = some k → k < W.heap.size := fun k e => by subst e; obtain ⟨cs, m, hc⟩ := hC.hg _ _ _ j; exact far_lt hc
        have f1 : w6.heap[W.heap.size]? = some (.cells #[Value.int .i64 C] 3 (0, 0)) := by
          rw [hW6]; exact (Below.heap_alloc _ _ _ (by simp)).trans (World.alloc_heap_new W _)
        have f2 : w6.heap[W.heap.size + 1]? = some (.cells #[Value.int .i64 D] 3 (0, 0)) := by
          rw [hW6]
          have := World.alloc_heap_new (W.alloc (.cells #[Value.int .i64 C] 3)) (.cells #[Value.int .i64 D] 3 (0, 0))
          rwa [World.size_alloc] at this
        have lie6 := (((lie.cons bXh hXg).below hba).cons f2 (fun e => by have := gs _ e.symm; omega)).cons f1 (fun e => by have := gs _ e.symm; omega)
        have j6 := hC.below j hba (by omega)
        have hrr6 : w6.heap[l2]? = some (.loop rr) := (hba.block l2 (Array.getElem?_eq_some_iff.1 hrr).1).trans hrr
        clear hW6 gs
        gi_wp2
        refine wpIn_rangeFunc_ownN (l₀ := l2) (r₀ := rr) rfl hrr6 (by omega) (gf := 44) (lb := #[.pointer (some ⟨W.heap.size, 0, none⟩), .pointer (some ⟨W.heap.size + 1, 0, none⟩)]) rfl trivial (enters_of Tryd.func44 (by kernel_rfl) rfl)
          ((between_stops Fence.wide (9 - 1 - 1 - 1) trivial rfl (by omega) W.heap.size (W.heap.size + 1) C D (by omega) (by omega) (by omega) w6 (by omega) (by omega) (cell_of_block f1 rfl) (cell_of_block f2 rfl)).inRound l2)
          Keep2.t (Keep2.b (by omega) (by omega)) (Below.refl _ _) (fun _ => rfl)
          (fun pre' W' => ∃ g', J (gridL C (span C D) pre ++ pre'.map (fun q => (q, z))) g' W' ∧ Lie ((W.heap.size, #[Value.int .i64 C], 3) :: (W.heap.size + 1, #[Value.int .i64 D], 3) :: (Bx, #[Value.int .i64 z], 3) :: (boxesL l w.heap.size w4.heap.size C R D S)) g' W' ∧ KeepsFrom w5.heap.size W W')
          (fun c pre' W' => c = .ret ∧ ∃ g', Jx (gridL C (span C D) pre ++ pre'.map (fun q => (q, z))) g' W' ∧ B ≤ W'.heap.size ∧ KeepsFrom w5.heap.size W W')
          (fun s X Y row hs hg hr => by
            obtain ⟨g', j', lie', kf'⟩ := hs
            exact ⟨g', hC.grown j' hg (fun r e => ⟨by have := (hr r e).1; omega, (hr r e).2⟩) (by have := far_lt lie'.tail.tail.tail.b2; omega), lie'.grown hg (fun r e => (hr r e).2), ownFrom_keepsFrom (β := Unit) (B' := w6.heap.size) (by omega) () X Y row kf' hg hr⟩)
          (fun c s X Y row hs hg hr => by
            obtain ⟨hc, g', j', hBX, kf'⟩ := hs
            exact ⟨hc, g', hC.grownx j' hg (fun r e => ⟨by have := (hr r e).1; omega, (hr r e).2⟩) hBX, Nat.le_trans hBX hg.size, ownFrom_keepsFrom (β := Unit) (B' := w6.heap.size) (by omega) () X Y row kf' hg hr⟩)
          ⟨g, by simpa using j6, lie6, kf6⟩
          (fun q a'' _ => a'' = { tmps := #[.func (.yield l) #[] #[], .pointer (some ⟨pa, 0, none⟩), .pointer (some ⟨pb, 0, none⟩), .pointer (some ⟨w.heap.size, 0, none⟩), .pointer (some ⟨w4.heap.size, 0, none⟩), .pointer (some ⟨w4.heap.size + 1, 0, none⟩), .pointer (some ⟨Bx, 0, none⟩), .int .i64 q, (Value.agg #[Value.int .i64 (c), Value.int .i64 (r), Value.bool x, Value.bool y]), .bool true, .bool false, .bool false, (Value.agg #[Value.int .i64 (d), Value.int .i64 (s), Value.bool u, Value.bool v]), .bool true, .bool false, .bool false, .tuple #[(Value.agg #[Value.int .i64 (C), Value.int .i64 (R), Value.bool false, Value.bool false]), (Value.agg #[Value.int .i64 (D), Value.int .i64 (S), Value.bool false, Value.bool false])], (Value.agg #[Value.int .i64 (c), Value.int .i64 (r), Value.bool x, Value.bool y]), (Value.agg #[Value.int .i64 (d), Value.int .i64 (s), Value.bool u, Value.bool v]), .tuple #[(Value.agg #[Value.int .i64 (C), Value.int .i64 (R), Value.bool false, Value.bool false]), (Value.agg #[Value.int .i64 (D), Value.int .i64 (S), Value.bool false, Value.bool false])], (Value.agg #[Value.int .i64 (C), Value.int .i64 (R), Value.bool false, Value.bool false]), (Value.agg #[Value.int .i64 (D), Value.int .i64 (S), Value.bool false, Value.bool false]), .pointer (some ⟨w4.heap.size, 1, none⟩), .int .i64 R, .pointer (some ⟨w4.heap.size + 1, 1, none⟩), .int .i64 S, .func (.func 44) #[] #[.pointer (some ⟨w4.heap.size + 1 + 1, 0, none⟩), .pointer (some ⟨w4.heap.size + 1 + 1 + 1, 0, none⟩)], .int .i64 z, .pointer (some ⟨w4.heap.size, 0, none⟩), .int .i64 C, .pointer (some ⟨w4.heap.size + 1, 0, none⟩), .int .i64 D, .func (.func 44) #[] #[.pointer (some ⟨W.heap.size, 0, none⟩), .pointer (some ⟨W.heap.size + 1, 0, none⟩)], .int .i64 q, undef, undef, undef, undef, undef, undef], defers := [] })
          (fun _ _ _ _ _ _ hs _ _ => hs)
          ?assign2 ?body2 ?done2 ?stop2
        case assign2 =>
          rintro l3 pre' q W' K hi hK
          gi_wp2
          exact hK _ _ (KeepsFrom.refl _ _) Keep2.rfl hi rfl
        case body2 =>
          rintro l3 pre' q a'' W' _ _ ⟨g', j', lie', kf'⟩ rfl hlt'
          have cY : W'.cell? ⟨w.heap.size, 0, none⟩ = some (.func (.yield l) #[] #[]) := cell_of_block lie'.tail.tail.tail.b1 rfl
          have cX : W'.cell? ⟨Bx, 0, none⟩ = some (.int .i64 z) := cell_of_block (lie'.lie (Bx, #[Value.int .i64 z], 3) (by simp)) rfl
          have hlen : (gridL C (span C D) pre ++ pre'.map (fun q => (q, z))).length < (gridL C (span C D) (upto R (span R S))).length := by
            rw [List.length_append, gridL_length, gridL_length, upto_length, List.length_map]
            have := Nat.mul_le_mul_right (span C D) (Nat.succ_le_of_lt hlt)
            rw [Nat.succ_mul] at this
            omega
          obtain ⟨fn, tmps, asg, bd, hy, hR⟩ := hC.hY 4 _ g' (q, z) W' j' hlen
          dsimp only at hy
          clear hlen
          have LB6 : ∀ p ∈ ((W.heap.size, #[Value.int .i64 C], 3) :: (W.heap.size + 1, #[Value.int .i64 D], 3) :: (Bx, #[Value.int .i64 z], 3) :: (boxesL l w.heap.size w4.heap.size C R D S) : List (Nat × Array Value × TypeId)), B ≤ p.1 := by
            intro p hp
            rcases List.mem_cons.1 hp with rfl | hp
            · simp only; omega
            rcases List.mem_cons.1 hp with rfl | hp
            · simp only; omega
            rcases List.mem_cons.1 hp with rfl | hp
            · simp only; omega
            exact LB p hp
          have hgJ : ∀ k, g' = some k → ∃ cs m, W'.heap[k]? = some (.cells cs 23 m) := fun k e => by subst e; exact hC.hg _ _ _ j'
          gi_wp2
          refine RoundIn.mono (show RoundIn ((Fence.wide.inRound l2).inRound l3) 4 Tryd.prog l fn tmps asg bd W' _ from hR) ?_
          rintro e W2 ⟨g2, hrd, (⟨rfl, hJ2⟩ | ⟨rfl, hJx2⟩)⟩
          · have lie2 := lie'.rd LB6 hrd
            have kf2 : ∀ Bb, B ≤ Bb → KeepsFrom Bb W' W2 := fun Bb hh => hrd.keeps hh hgJ
            have h1 := lie'.lie (W.heap.size, #[Value.int .i64 C], 3) (by simp)
            have h2 := lie'.lie (W.heap.size + 1, #[Value.int .i64 D], 3) (by simp)
            have h3 := lie2.lie (W.heap.size, #[Value.int .i64 C], 3) (by simp)
            have h4 := lie2.lie (W.heap.size + 1, #[Value.int .i64 D], 3) (by simp)
            have kp : Keep2 W.heap.size (W.heap.size + 1) W' W2 := ⟨World.cell?_of_block (w := W') (h3.trans h1.symm), World.cell?_of_block (w := W') (h4.trans h2.symm)⟩
            clear h1 h2 h3 h4 cY cX hR hy
            gi_wp2
            exact ⟨kf2 _ (by omega), kp, g2, by rw [List.map_append, ← List.append_assoc]; exact hJ2, lie2, kf'.trans (kf2 _ (by omega))⟩
          · have kf2 : ∀ Bb, B ≤ Bb → KeepsFrom Bb W' W2 := fun Bb hh => hrd.keeps hh hgJ
            have hsz := hrd.size
            have hl' := far_lt lie'.tail.tail.tail.b2
            clear cY cX hR hy
            gi_wp2
            exact ⟨kf2 _ (by omega), rfl, g2, by rw [List.map_append, ← List.append_assoc]; exact hJx2, by omega, kf'.trans (kf2 _ (by omega))⟩
        case done2 =>
          rintro ys W' rfl ⟨g', j', lie', kf'⟩
          gi_wp2
          exact ⟨kf', boxesL_k lie lie'.tail.tail.tail, ⟨g', by rw [gridL_snoc]; exact j', lie'.tail.tail.tail⟩⟩
        case stop2 =>
          rintro cc pre' W' hpre ⟨rfl, g', jx, hBW, kf'⟩
          gi_wp2
          exact ⟨kf', rfl, g', _, by rw [gridL_snoc]; exact (List.prefix_append_right_inj _).2 (hpre.map _), jx, hBW⟩
      case done =>
        rintro Dd zs W hD rfl ⟨g, j, lie⟩ hK
        gi_wp2
        refine ⟨by simp, .inl ⟨_, _, rfl, run_takeDeferred hK, ?_⟩⟩
        refine ⟨_, results_none rfl _ _ _, ⟨_, rfl⟩, g, .inl ?_⟩
        exact hC.grown j (grownBy_putObj' W Dd (.deferred none)) (fun r e => by cases e; exact ⟨by omega, _, hK, rfl⟩) (by have := far_lt lie.b2; omega)
      case stop =>
        rintro Dd cc pre W hD hpre ⟨rfl, g, q, hq, j, hBW⟩ hK
        gi_wp2
        refine ⟨by simp, .inl ⟨_, _, rfl, run_takeDeferred hK, ?_⟩⟩
        refine ⟨_, results_none rfl _ _ _, ⟨_, rfl⟩, g, .inr ⟨q, hq.trans (gridL_prefix C _ hpre), ?_⟩⟩
        exact hC.grownx j (grownBy_putObj' W Dd (.deferred none)) (fun r e => by cases e; exact ⟨by omega, _, hK, rfl⟩) hBW
    · have hcl : cellsL c r d s = [] := by
        unfold cellsL; rw [g1, Bool.eq_false_iff.2 g2]; exact if_neg (by simp)
      rw [hcl]
      have R1 := right_any c r x y W0
      rw [g1] at R1
      rw [Bool.not_eq_true] at g2
      refine callsIn_of_wp Tryd.func41 rfl trivial ?_ rfl
      simp only [Tryd.ntmps41, List.size_toArray, List.length_cons, List.length_nil, Nat.reduceAdd, Nat.reduceSub, Array.replicate_succ, Array.replicate_zero, List.push_toArray, List.append_toArray, List.nil_append, List.cons_append]
      gi_wp2_with fail
      refine ⟨trivial, callsIn_wide.2 (R1.mono ?_)⟩
      rintro en w2 ⟨rfl, hb2⟩
      clear R1 a0 a1 a2 a3 a4 a5 a6 a7
      have hs2 := hb2.size
      have B2 := HBb.out.on hb2 (by omega)
      have hz2 := via hb0 hb2
      clear hb2 hb0 HA HBb
      obtain ⟨a4, a5, a6, a7⟩ := B2
      have R2 := right_any d s u v w2
      rw [g2] at R2
      gi_wp2_with fail
      refine ⟨trivial, callsIn_wide.2 (R2.mono ?_)⟩
      rintro en w3 ⟨rfl, hb3⟩
      clear R2
      have hz3 := via hz2 hb3
      have hj := hC.below h0 hz3 hB
      clear hb3 hz2 hz3
      gi_wp2
      refine bodyPost_ret (results_none rfl _ _ _) rfl ?_
      exact ⟨⟨_, rfl⟩, g0, .inl hj⟩
  · have hcl : cellsL c r d s = [] := by
      unfold cellsL; rw [Bool.eq_false_iff.2 g1]; exact if_neg (by simp)
    rw [hcl]
    rw [Bool.not_eq_true] at g1
    have R1 := right_any c r x y W0
    rw [g1] at R1
    refine callsIn_of_wp Tryd.func41 rfl trivial ?_ rfl
    simp only [Tryd.ntmps41, List.size_toArray, List.length_cons, List.length_nil, Nat.reduceAdd, Nat.reduceSub, Array.replicate_succ, Array.replicate_zero, List.push_toArray, List.append_toArray, List.nil_append, List.cons_append]
    gi_wp2_with fail
    refine ⟨trivial, callsIn_wide.2 (R1.mono ?_)⟩
    rintro en w2 ⟨rfl, hb2⟩
    clear R1 a0 a1 a2 a3 a4 a5 a6 a7
    have hz2 := via hb0 hb2
    have hj := hC.below h0 hz2 hB
    clear hb2 hb0 hz2
    gi_wp2
    refine ⟨trivial, ?_⟩
    gi_wp2
    refine bodyPost_ret (results_none rfl _ _ _) rfl ?_
    exact ⟨⟨_, rfl⟩, g0, .inl hj⟩
end Go.Proofs.YtikcggbkkgipoaaDoor
