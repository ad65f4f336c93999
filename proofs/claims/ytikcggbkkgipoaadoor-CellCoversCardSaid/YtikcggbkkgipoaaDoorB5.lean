/-
  tabardlaw15.cells: walked.
-/
import Derived.Test.YtikcggbkkgipoaaDoorB4
namespace Go.Proofs.YtikcggbkkgipoaaDoor
open Go.RowKit Go.Shelf
attribute [local go_sem] Oper.semAt_some

theorem cell_four_new (w : World) (q : Int × Int) (t : TypeId) : ∀ j u, (cell4 q)[j]? = some u → (w.alloc (.cells #[.int .i64 q.1, .int .i64 q.2, .bool false, .bool false] t)).cell? ((⟨w.heap.size, 0, none⟩ : Addr).add j) = some u := by
  intro j u hj
  have hh := World.alloc_heap_new w (.cells #[Value.int .i64 q.1, Value.int .i64 q.2, Value.bool false, Value.bool false] t (0, 0))
  match j, hj with
  | 0, hj => cases hj; exact cell_of_block (j := 0) hh rfl
  | 1, hj => cases hj; exact cell_of_block (j := 1) hh rfl
  | 2, hj => cases hj; exact cell_of_block (j := 2) hh rfl
  | 3, hj => cases hj; exact cell_of_block (j := 3) hh rfl
  | n + 4, hj => cases hj
theorem ownsRow_fr {W W' : World} {base : Nat} {e : TypeId} {size : Nat} {v : Value} {k : Nat} {xs : List Value} (h : W.ownsRow base e size v k xs) (hb : ∀ b, v.ownBlock = some b → W'.heap[b]? = W.heap[b]?) : W'.ownsRow base e size v k xs := by
  refine ⟨h.1, ?_⟩
  rcases h.2 with h2 | ⟨g, cap, cur, rfl, hg, hh, rest⟩
  · exact .inl h2
  · exact .inr ⟨g, cap, cur, rfl, hg, (hb g rfl).trans hh, rest⟩
/-- What lies between two rounds: the slice so far in its box; the bound in its own. -/
def cellsI (w : World) (most : Int) (pre : List (Int × Int)) (g : Option Nat) (W : World) : Prop :=
  ∃ v, Boxed W (w.heap.size + 1 + 1 + 1) 36 v ∧ Boxed W (w.heap.size + 1 + 1) 3 (.int .i64 most) ∧ W.ownsRow w.heap.size 23 4 v pre.length (rowOf pre) ∧ v.ownBlock = g ∧ Below w.heap.size w W ∧ w.heap.size + 6 ≤ W.heap.size
theorem cellsI_fr {w : World} {most : Int} {B : Nat} (hB : w.heap.size + 4 ≤ B) (pre : List (Int × Int)) (g : Option Nat) (W W' : World) (h : cellsI w most pre g W) (hf : Fr B g W W') : cellsI w most pre g W' := by
  obtain ⟨v, h1, h2, h3, h4, h5, h6⟩ := h
  exact ⟨v, (hf.block _ (.inl (by omega))).trans h1, (hf.block _ (.inl (by omega))).trans h2, ownsRow_fr h3 (fun b hb => hf.block _ (.inr (by rw [← h4, hb]))), h4,
    h5.trans ⟨hf.os, hf.tape, hf.output, hf.size, fun k hk => hf.block _ (.inl (by omega))⟩, Nat.le_trans h6 hf.size⟩
theorem cellsI_g {w : World} {most : Int} (pre : List (Int × Int)) (k : Nat) (W : World) (h : cellsI w most pre (some k) W) : ∃ cs m, W.heap[k]? = some (.cells cs 23 m) := by
  obtain ⟨v, h1, h2, h3, h4, h5⟩ := h
  rcases h3.2 with ⟨rfl, _⟩ | ⟨g, cap, cur, rfl, hg, hh, rest⟩
  · cases h4
  · cases h4; exact ⟨cur, _, hh⟩
set_option maxRecDepth 100000 in
set_option maxHeartbeats 4000000 in
theorem cells_any (c r d s : Int) (x y u v : Bool) (most : Int) (hm : ((cellsL c r d s).length : Int) ≤ most) (w : World) :
    Calls Tryd.prog 25 #[(Value.agg #[Value.int .i64 (c), Value.int .i64 (r), Value.bool x, Value.bool y]), (Value.agg #[Value.int .i64 (d), Value.int .i64 (s), Value.bool u, Value.bool v]), .int .i64 most] w fun e w' => ∃ vv, e = .returned vv ∧
      w'.ownsRow w.heap.size 23 4 vv (cellsL c r d s).length (rowOf (cellsL c r d s)) ∧ Below w.heap.size w w' := by
  refine (callsIn_wide (n := 10)).1 ?_
  refine callsIn_of_wp_marks Tryd.func25 rfl trivial ?_ rfl
  simp only [Tryd.ntmps25, List.size_toArray, List.length_cons, List.length_nil, Nat.reduceAdd, Nat.reduceSub, Array.replicate_succ, Array.replicate_zero, List.push_toArray, List.append_toArray, List.nil_append, List.cons_append]
  gi_wp2_with fail
  refine ⟨trivial, (cells_call _ c r d s x y u v _).mono ?_⟩
  rintro en W0 ⟨rfl, hW0⟩
  simp only [World.size_alloc] at hW0 ⊢
  have s0 : W0.heap.size = w.heap.size + 6 := by rw [hW0]; simp
  have hb0 : Below w.heap.size w W0 := by rw [hW0]; (repeat' first | exact Below.refl _ _ | refine Below.alloc ?_ ?_ _ | refine Below.setCell ?_ ?_ _ | refine below_drewN ?_ _ | (simp; done) | (simp; omega))
  have f2 : Boxed W0 (w.heap.size + 1 + 1) 3 (.int .i64 most) := by
    have h := Boxed.new ((w.alloc (.cells #[.int .i64 c, .int .i64 r, .bool x, .bool y] 23)).alloc (.cells #[.int .i64 d, .int .i64 s, .bool u, .bool v] 23)) 3 (.int .i64 most)
    simp only [World.size_alloc] at h
    rw [hW0]; exact ((h.alloc _).alloc _).alloc _
  have f3 : Boxed W0 (w.heap.size + 1 + 1 + 1) 36 (.slice none 0 0) := by
    have h := Boxed.new (((w.alloc (.cells #[.int .i64 c, .int .i64 r, .bool x, .bool y] 23)).alloc (.cells #[.int .i64 d, .int .i64 s, .bool u, .bool v] 23)).alloc (.cells #[.int .i64 most] 3)) 36 (.slice none 0 0)
    simp only [World.size_alloc] at h
    rw [hW0]; exact (h.alloc _).alloc _
  have f5 : BoxR W0 (w.heap.size + 1 + 1 + 1 + 1 + 1) d s u v := by
    have h := BoxR.new (((((w.alloc (.cells #[.int .i64 c, .int .i64 r, .bool x, .bool y] 23)).alloc (.cells #[.int .i64 d, .int .i64 s, .bool u, .bool v] 23)).alloc (.cells #[.int .i64 most] 3)).alloc (.cells #[.slice none 0 0] 36)).alloc (.cells #[.int .i64 c, .int .i64 r, .bool x, .bool y] 23)) d s u v
    simp only [World.size_alloc] at h
    rw [hW0]; exact h
  have f4 : BoxR W0 (w.heap.size + 1 + 1 + 1 + 1) c r x y := by
    have h := BoxR.new ((((w.alloc (.cells #[.int .i64 c, .int .i64 r, .bool x, .bool y] 23)).alloc (.cells #[.int .i64 d, .int .i64 s, .bool u, .bool v] 23)).alloc (.cells #[.int .i64 most] 3)).alloc (.cells #[.slice none 0 0] 36)) c r x y
    simp only [World.size_alloc] at h
    rw [hW0]
    refine h.on (n := w.heap.size + 1 + 1 + 1 + 1 + 1) ?_ (by omega)
    exact (Below.refl _ _).alloc (by simp) _
  clear hW0
  have H0 : cellsI w most [] none W0 := ⟨_, f3, f2, World.ownsRow_nil _ _ _ _, rfl, hb0, by omega⟩
  have hN := cellsL_le c r d s
  gi_wp2
  refine wpIn_rangeCells (pa := w.heap.size + 1 + 1 + 1 + 1) (pb := w.heap.size + 1 + 1 + 1 + 1 + 1) c r d s x y u v 0 rfl rfl f4 f5 (by omega) (by omega) (cellsI w most) (fun _ _ _ => False) none
    (cellsI_fr (by omega)) (fun _ _ _ _ h _ => h) cellsI_g (fun _ _ _ h => h.elim) H0
    (fun q a' W => ∃ Bx, w.heap.size + 6 ≤ Bx ∧ W.heap[Bx]? = some (.cells #[.int .i64 q.1, .int .i64 q.2, .bool false, .bool false] 23 (0, 0)) ∧ a' = { tmps := #[(Value.agg #[Value.int .i64 (c), Value.int .i64 (r), Value.bool x, Value.bool y]), (Value.agg #[Value.int .i64 (d), Value.int .i64 (s), Value.bool u, Value.bool v]), .int .i64 most, .pointer (some ⟨w.heap.size, 0, none⟩), .pointer (some ⟨w.heap.size + 1, 0, none⟩), .pointer (some ⟨w.heap.size + 1 + 1, 0, none⟩), .slice none 0 0, .pointer (some ⟨w.heap.size + 1 + 1 + 1, 0, none⟩), .pointer (some ⟨Bx, 0, none⟩), (Value.agg #[Value.int .i64 (c), Value.int .i64 (r), Value.bool x, Value.bool y]), (Value.agg #[Value.int .i64 (d), Value.int .i64 (s), Value.bool u, Value.bool v]), .func (.func 41) #[] #[.pointer (some ⟨w.heap.size + 1 + 1 + 1 + 1, 0, none⟩), .pointer (some ⟨w.heap.size + 1 + 1 + 1 + 1 + 1, 0, none⟩)], (Value.agg #[Value.int .i64 (q.1), Value.int .i64 (q.2), Value.bool false, Value.bool false]), undef, undef, undef, undef, undef, undef, undef, undef, undef], defers := [] })
    (fun q a' W l ob o' h hl hW hn => by
      obtain ⟨Bx, h1, h2, h3⟩ := h
      exact ⟨Bx, h1, (World.putObj_heap_other (fun e => by subst e; rw [hW] at h2; cases h2; cases hn)).trans h2, h3⟩)
    ?assign ?body ?done ?stop
  case assign =>
    rintro l m pre g q W K hi hK
    have hsz : w.heap.size + 6 ≤ W.heap.size := by
      obtain ⟨_, _, _, _, _, _, h6⟩ := hi
      exact h6
    gi_wp2
    exact hK _ _ (Rd.alloc W _) (cellsI_fr (B := w.heap.size + 4) (Nat.le_refl _) _ _ _ _ hi (Fr.below ((Below.refl _ W).alloc (Nat.le_refl _) _) (by omega) (fun k e => by subst e; obtain ⟨cs, m, hc⟩ := cellsI_g _ _ _ hi; exact far_lt hc))) ⟨W.heap.size, hsz, World.alloc_heap_new W _, rfl⟩
  case body =>
    rintro l m pre g q a' W ⟨vv, h1, h2, h3, h4, h5, h6⟩ ⟨Bx, hBx, hX, rfl⟩ hlt
    have c1 := h1.cell
    have z1 := h1.frozen
    have c2 := h2.cell
    have cx0 := cell_of_block (j := 0) hX rfl
    have cx1 := cell_of_block (j := 1) hX rfl
    have cx2 := cell_of_block (j := 2) hX rfl
    have cx3 := cell_of_block (j := 3) hX rfl
    have hlm : (pre.length : Int) ≠ most := by omega
    rcases h3.2 with ⟨rfl, hp0⟩ | ⟨gb, cap, cur, rfl, hgb, hgg, hnc, hcm, hcs, htake⟩
    · have hlm0 : (0 : Int) ≠ most := by rw [hp0] at hlm; exact hlm
      clear hp0
      gi_wp2_with (gi_at_builtin; refine wpListIn_app _ rfl _ _ rfl w.heap.size _ pre.length (rowOf pre) rfl (h3.alloc _) ⟨W.heap.size, 0, none⟩ 1 (cell4 q) rfl rfl (cell_four_new _ _ _) (by simp [cell4, Value.oneCell']) (by omega) (by have := h5.size; simp; omega) ?_; intro v' w1 hown' hgrow hwh; obtain ⟨g', cap', rfl⟩ := ownsRow_succ hown'; obtain ⟨hv1, hv2, hr2, hk2, hb2⟩ := h1.appended (by decide) h3 h5.size (by omega) hown' hgrow; have hc1 := hv1.cell; have hf1 := hv1.frozen)
      have hm2 := ((h2.alloc (.cells #[.int .i64 q.1, .int .i64 q.2, .bool false, .bool false] 23)).kept hgrow (h2.not_row (by decide) h3)).other (B' := w.heap.size + 1 + 1 + 1) (by omega) (.slice (some ⟨g', 0, none⟩) (pre.length + 1) cap')
      exact ⟨Value.ownBlock (.slice (some ⟨g', 0, none⟩) (pre.length + 1) cap'), ⟨by rcases hwh with e | e; exact .inl (e.trans h4); exact .inr ⟨_, e, by simp⟩, hk2.size,
        fun k hk hn hl => (Below.heap_setCell _ _ _ _ (by simp; omega)).trans ((hgrow.block k (by simp; omega) (fun e => hn (e.trans h4))).trans (Below.heap_alloc _ _ _ hl))⟩,
        _, hv2, hm2, by rw [rowOf_snoc, List.length_append]; exact hr2, rfl, h5.trans hb2, Nat.le_trans h6 hk2.size⟩
    · clear hgg hnc hcm hcs htake
      gi_wp2_with (gi_at_builtin; refine wpListIn_app _ rfl _ _ rfl w.heap.size _ pre.length (rowOf pre) rfl (h3.alloc _) ⟨W.heap.size, 0, none⟩ 1 (cell4 q) rfl rfl (cell_four_new _ _ _) (by simp [cell4, Value.oneCell']) (by omega) (by have := h5.size; simp; omega) ?_; intro v' w1 hown' hgrow hwh; obtain ⟨g', cap', rfl⟩ := ownsRow_succ hown'; obtain ⟨hv1, hv2, hr2, hk2, hb2⟩ := h1.appended (by decide) h3 h5.size (by omega) hown' hgrow; have hc1 := hv1.cell; have hf1 := hv1.frozen)
      have hm2 := ((h2.alloc (.cells #[.int .i64 q.1, .int .i64 q.2, .bool false, .bool false] 23)).kept hgrow (h2.not_row (by decide) h3)).other (B' := w.heap.size + 1 + 1 + 1) (by omega) (.slice (some ⟨g', 0, none⟩) (pre.length + 1) cap')
      exact ⟨Value.ownBlock (.slice (some ⟨g', 0, none⟩) (pre.length + 1) cap'), ⟨by rcases hwh with e | e; exact .inl (e.trans h4); exact .inr ⟨_, e, by simp⟩, hk2.size,
        fun k hk hn hl => (Below.heap_setCell _ _ _ _ (by simp; omega)).trans ((hgrow.block k (by simp; omega) (fun e => hn (e.trans h4))).trans (Below.heap_alloc _ _ _ hl))⟩,
        _, hv2, hm2, by rw [rowOf_snoc, List.length_append]; exact hr2, rfl, h5.trans hb2, Nat.le_trans h6 hk2.size⟩
  case done =>
    rintro D g W hD ⟨vv, h1, h2, h3, h4, h5, _⟩ hK
    have c1 := h1.cell
    gi_wp2
    refine ⟨by simp, .inl ⟨_, _, rfl, run_takeDeferred hK, ?_⟩⟩
    exact ⟨_, results_tmp rfl _ _ _, vv, rfl, ownsRow_putObj h3 _ hK rfl, h5.trans (belowK_b (w := w) (Nat.le_refl _) W D _ _ (by omega) hK rfl rfl)⟩
  case stop =>
    rintro D g pre W _ _ h _
    exact h.elim
end Go.Proofs.YtikcggbkkgipoaaDoor
