/-
  tabardlaw15.cells: an area's cells, collected.
-/
import Derived.Test.YtikcggbkkgipoaaDoorB3
import Derived.Maps.AppendAt
namespace Go.Proofs.YtikcggbkkgipoaaDoor
open Go.RowKit Go.Shelf
attribute [local go_sem] Oper.semAt_some

/-- A cell's own four cells in a row. -/
def cell4 (q : Int × Int) : List Value := [.int .i64 q.1, .int .i64 q.2, .bool false, .bool false]
def rowOf (l : List (Int × Int)) : List Value := l.flatMap cell4
theorem rowOf_snoc (l : List (Int × Int)) (q : Int × Int) : rowOf (l ++ [q]) = rowOf l ++ cell4 q := by simp [rowOf]
theorem infoRef : (Tryd.prog.info? 23).map (fun i => (i.zero, i.size, i.bytes)) = some (some (Value.agg #[Value.int .i64 (0), Value.int .i64 (0), Value.bool false, Value.bool false]), 4, 24) := by kernel_rfl
theorem undSl : Tryd.prog.underlying 36 = some (.slice 23) := by kernel_rfl
/-- An append of one cell: where its row lies behind it. -/
theorem run_app (w : World) (base : Nat) (ty : TypeId) (v : Value) (n : Nat) (xs : List Value) (hown : w.ownsRow base 23 4 v n xs) (a : Addr) (c : Nat) (news : List Value) (hl : news.length = 4)
    (hnews : ∀ j u, news[j]? = some u → w.cell? (a.add j) = some u) (h1 : ∀ u ∈ news, u.oneCell' = true) (hn : n ≤ 64000) (hbase : base ≤ w.heap.size) :
    ∃ v' w', (Builtin.append_ #[36, 36] ty #[v, .slice (some a) 1 c]).run Tryd.prog w = .ok v' w' ∧ w'.ownsRow base 23 4 v' (n + 1) (xs ++ news) ∧ w.grownBy w' v.ownBlock ∧ (v'.ownBlock = v.ownBlock ∨ v'.ownBlock = some w.heap.size) := by
  obtain ⟨i0, hi, hz0, hz1, hz2⟩ := info_parts infoRef
  have hlen : n + 1 ≤ maxLen := by simp only [maxLen]; omega
  have hby : (n + 1) * 24 ≤ 140737488355328 := by omega
  obtain ⟨v', w', hr, ho, hg, _⟩ := run_append_own (P := Tryd.prog) w base 36 ty 23 i0 (Value.agg #[Value.int .i64 (0), Value.int .i64 (0), Value.bool false, Value.bool false]) 4 24 undSl hi hz0 hz1 hz2 rfl (by decide) v n xs hown a 1 c news (by omega) hnews h1 hlen hby hbase
  refine ⟨v', w', hr, ho, hg, ?_⟩
  rcases hown.2 with ⟨rfl, rfl⟩ | ⟨g, cap, cur, rfl, hbg, hgg, hnc, hcm, hcs, htake⟩
  · have hr2 := run_append_nil (P := Tryd.prog) w 36 ty 23 i0 (Value.agg #[Value.int .i64 (0), Value.int .i64 (0), Value.bool false, Value.bool false]) undSl hi hz0 a 1 c news (by omega) hnews (by omega) (by omega) (by rw [hz2]; decide)
    rw [hr] at hr2
    cases hr2
    exact .inr rfl
  · by_cases hroom : n + 1 ≤ cap
    · have hr2 := run_append_room (P := Tryd.prog) w 36 ty 23 i0 undSl hi g n cap cur hgg a 1 c news (by omega) hnews h1 hroom (by rw [hl, hz1, hcs]; omega)
      rw [hr] at hr2
      cases hr2
      exact .inl rfl
    · have hr2 := run_append_grow (P := Tryd.prog) w 36 ty 23 i0 (Value.agg #[Value.int .i64 (0), Value.int .i64 (0), Value.bool false, Value.bool false]) undSl hi hz0 ⟨g, 0, none⟩ n cap xs (by rw [hz1]; exact hown.1) (hown.cells (g := g) rfl) a 1 c news (by omega) hnews (by omega) (by omega) (by rw [hz2]; exact growslice_fits (by omega) hby)
      rw [hr] at hr2
      cases hr2
      exact .inr rfl
theorem wpListIn_app {F : Fence} {m : Nat} (w : World) {ops : Array Oper} {rest : List Oper} {o : Oper} {a : Act} {Q : Exit → Act → World → Prop}
    (hg : o.guard = none) (s x : Operand) (hop : o.op = Op.call { callee := Callee.builtin Builtin.append, args := #[s, x], argTypes := #[36, 36] })
    (base : Nat) (v : Value) (k : Nat) (xs : List Value) (hs : a.eval s = v) (hown : w.ownsRow base 23 4 v k xs) (ad : Addr) (c : Nat) (news : List Value) (hx : a.eval x = .slice (some ad) 1 c) (hn : news.length = 4)
    (hc : ∀ j u, news[j]? = some u → w.cell? (ad.add j) = some u) (h1c : ∀ u ∈ news, u.oneCell' = true) (b1 : k ≤ 64000) (b3 : base ≤ w.heap.size)
    (hK : ∀ v' w', w'.ownsRow base 23 4 v' (k + 1) (xs ++ news) → w.grownBy w' v.ownBlock → (v'.ownBlock = v.ownBlock ∨ v'.ownBlock = some w.heap.size) → wpListIn F m Tryd.prog ops Q rest (a.put o.dst v') w') :
    wpListIn F m Tryd.prog ops Q (o :: rest) a w := by
  refine wpListIn_plain hg fun K hK' => ?_
  obtain ⟨v', w', hrun, r1, r2, r3⟩ := run_app w base o.type v k xs hown ad c news hn hc h1c b1 b3
  unfold Oper.wpIn
  refine ⟨?_, ?_⟩
  · simp [Oper.about, hop, resolve, Target.leads, Sem.run_pure]
  · rw [Oper.semAt_plain F _ _ (by rw [hop]; intro c hc'; cases hc')]
    simp [execOp, hop, resolve, invoke, builtin, hs, hx, hrun, Result.andThen]
    exact hK' _ _ (hK v' w' r1 r2 r3)
/-- The function value that Cells hands back: it has captured the boxes of its two references. -/
theorem cells_call (n : Nat) (c r d s : Int) (x y u v : Bool) (w : World) :
    CallsIn Fence.wide n Tryd.prog 38 #[(Value.agg #[Value.int .i64 (c), Value.int .i64 (r), Value.bool x, Value.bool y]), (Value.agg #[Value.int .i64 (d), Value.int .i64 (s), Value.bool u, Value.bool v])] w fun e w' => e = .returned (.func (.func 41) #[] #[.pointer (some ⟨w.heap.size, 0, none⟩), .pointer (some ⟨w.heap.size + 1, 0, none⟩)]) ∧
      w' = (w.alloc (.cells #[.int .i64 c, .int .i64 r, .bool x, .bool y] 23)).alloc (.cells #[.int .i64 d, .int .i64 s, .bool u, .bool v] 23) := by
  refine callsIn_of_wp Tryd.func38 rfl trivial ?_ rfl
  simp only [Tryd.ntmps38, List.size_toArray, List.length_cons, List.length_nil, Nat.reduceAdd, Nat.reduceSub, Array.replicate_succ, Array.replicate_zero, List.push_toArray, List.append_toArray, List.nil_append, List.cons_append]
  gi_wp2
  go_ret
  exact ⟨rfl, rfl⟩
theorem cellsL_le (c r d s : Int) : (cellsL c r d s).length ≤ 64000 := by
  unfold cellsL
  by_cases h : (rgt c r && rgt d s) = true
  · rw [if_pos h, gridL_length, upto_length]
    rw [Bool.and_eq_true] at h
    obtain ⟨c0, c1, r0, r1⟩ := rgt_iff.1 h.1
    obtain ⟨d0, d1, s0, s1⟩ := rgt_iff.1 h.2
    have e1 : span (min c d) (max c d) ≤ 64 := by unfold span; omega
    have e2 : span (min r s) (max r s) ≤ 1000 := by unfold span; omega
    exact Nat.mul_le_mul e2 e1
  · rw [if_neg h]; simp
end Go.Proofs.YtikcggbkkgipoaaDoor
