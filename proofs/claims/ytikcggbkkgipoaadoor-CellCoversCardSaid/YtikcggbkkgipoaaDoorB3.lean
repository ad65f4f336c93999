/-
  A range over an area's cells, in a caller that keeps cells of its own: its boxes, and one far block.
-/
import Derived.Test.YtikcggbkkgipoaaDoorB2
namespace Go.Proofs.YtikcggbkkgipoaaDoor
open Go.RowKit Go.Shelf
attribute [local go_sem] Oper.semAt_some

theorem Rd.refl (B : Nat) (g : Option Nat) (W : World) : Rd B g g W W := ⟨.inl rfl, Nat.le_refl _, fun _ _ _ _ => rfl⟩
theorem Rd.seq {B : Nat} {g g' : Option Nat} {W1 W2 W3 : World} (h : Rd B g g W1 W2) (k : Rd B g g' W2 W3) : Rd B g g' W1 W3 :=
  ⟨by rcases k.far with e | ⟨b, e, hb⟩
      · exact .inl e
      · exact .inr ⟨b, e, Nat.le_trans h.size hb⟩, Nat.le_trans h.size k.size, fun b hb hn hl => (k.block b hb hn (Nat.lt_of_lt_of_le hl h.size)).trans (h.block b hb hn hl)⟩
theorem Rd.put {B : Nat} {g g' : Option Nat} {W1 W2 : World} (h : Rd B g g' W1 W2) {l : Nat} (hl : l < B) (o : Obj) : Rd B g g' W1 (W2.putObj l o) :=
  ⟨h.far, by simpa using h.size, fun b hb hn hlt => (World.putObj_heap_other (by omega)).trans (h.block b hb hn hlt)⟩
theorem Rd.weaken {B B' : Nat} {g g' : Option Nat} {W1 W2 : World} (h : Rd B g g' W1 W2) (hB : B ≤ B') : Rd B' g g' W1 W2 :=
  ⟨h.far, h.size, fun b hb => h.block b (Nat.le_trans hB hb)⟩
theorem Rd.alloc {B : Nat} {g : Option Nat} (W : World) (o : Obj) : Rd B g g W (W.alloc o) := ⟨.inl rfl, by simp, fun b _ _ hl => Below.heap_alloc W o b hl⟩
theorem Fr.weaken {B B' : Nat} {g : Option Nat} {W1 W2 : World} (h : Fr B g W1 W2) (hB : B' ≤ B) : Fr B' g W1 W2 :=
  ⟨h.os, h.tape, h.output, h.size, fun k hk => h.block k (by rcases hk with hk | hk; exact .inl (by omega); exact .inr hk)⟩
theorem Fr.put {B : Nat} {g : Option Nat} {W : World} {l : Nat} {o : Obj} (o' : Obj) (hl : B ≤ l) (ho : W.heap[l]? = some o) (hn : o.isCells = false) (hg : ∀ k, g = some k → ∃ cs m, W.heap[k]? = some (.cells cs 23 m)) : Fr B g W (W.putObj l o') :=
  ⟨rfl, rfl, rfl, by simp, fun k hk => World.putObj_heap_other (fun e => by
    subst e
    rcases hk with hk | hk
    · omega
    · obtain ⟨cs, m, hc⟩ := hg k hk.symm
      rw [hc] at ho; cases ho; cases hn)⟩
/-- How the body of a round may be left. -/
def rangeR (B : Nat) (id : Nat) (I Ix : List (Int × Int) → Option Nat → World → Prop) (xs : List (Int × Int)) (g : Option Nat) (W : World) : Exit → Act → World → Prop
  | .normal, _, W' => ∃ g', Rd B g g' W W' ∧ I xs g' W'
  | .exit i, _, W' => i = id ∧ ∃ g', Rd B g g' W W' ∧ Ix xs g' W'
  | _, _, _ => False
set_option maxHeartbeats 1000000 in
theorem wpIn_rangeCells {gop : Operand} {ps : Array Tmp} {assign body : Code} {Q : Exit → Act → World → Prop} {a : Act} {w : World} {pa pb : Nat} (c r d s : Int) (x y u v : Bool) (id : Nat)
    (hev : a.eval gop = .func (.func 41) #[] #[.pointer (some ⟨pa, 0, none⟩), .pointer (some ⟨pb, 0, none⟩)]) (hps : ps.size = 1)
    (ha : BoxR w pa c r x y) (hb : BoxR w pb d s u v) (la : pa < w.heap.size) (lb : pb < w.heap.size)
    (I Ix : List (Int × Int) → Option Nat → World → Prop) (g0 : Option Nat)
    (hI : ∀ pre g W W', I pre g W → Fr w.heap.size g W W' → I pre g W') (hIx : ∀ pre g W W', Ix pre g W → Fr w.heap.size g W W' → Ix pre g W')
    (hIg : ∀ pre k W, I pre (some k) W → ∃ cs m, W.heap[k]? = some (.cells cs 23 m)) (hIxg : ∀ pre k W, Ix pre (some k) W → ∃ cs m, W.heap[k]? = some (.cells cs 23 m))
    (h0 : I [] g0 w)
    (Ax : Int × Int → Act → World → Prop) (hAx : ∀ x a' W l o o', Ax x a' W → w.heap.size ≤ l → W.heap[l]? = some o → o.isCells = false → Ax x a' (W.putObj l o'))
    (hassign : ∀ l m pre g x W (K : Act → World → Prop), I pre g W → (∀ a' W', Rd w.heap.size g g W W' → I pre g W' → Ax x a' W' → K a' W') →
      assign.wpIn (Fence.wide.inRound l) m Tryd.prog (Exit.then K (fun _ _ _ => False)) { tmps := (ps.zip #[(Value.agg #[Value.int .i64 (x.1), Value.int .i64 (x.2), Value.bool false, Value.bool false])]).foldl (fun t (p, v) => t.setIfInBounds p v) a.tmps, defers := [] } W)
    (hbody : ∀ l m pre g x a' W, I pre g W → Ax x a' W → pre.length < (cellsL c r d s).length → body.wpIn (Fence.wide.inRound l) m Tryd.prog (rangeR w.heap.size id I Ix (pre ++ [x]) g W) a' W)
    (hdone : ∀ D g W, w.heap.size ≤ D → I (cellsL c r d s) g W → W.heap[D]? = some (.deferred (some [])) → Q .normal { a with defers := { target := .collected D, args := #[] } :: a.defers } W)
    (hstop : ∀ D g pre W, w.heap.size ≤ D → pre <+: cellsL c r d s → Ix pre g W → W.heap[D]? = some (.deferred (some [])) → (Code.exit id).wpIn Fence.wide 10 Tryd.prog Q { a with defers := { target := .collected D, args := #[] } :: a.defers } W) :
    (Code.rangeFunc gop ps assign body).wpIn Fence.wide 10 Tryd.prog Q a w := by
  have eg : ∀ args w, (callFunc 41 args).run Tryd.prog w = .ok (.enter 41 args) w := enters_of Tryd.func41 (by kernel_rfl) rfl
  refine wpIn_rangeFunc ?_
  intro fn hfn
  obtain ⟨rec, hrec⟩ : ∃ rec : LoopState → Option Code → Loop, rec = fun st pe => { state := st, pending := pe, fn, tmps := a.tmps, params := ps, assign, body, defers := w.heap.size } := ⟨_, rfl⟩
  obtain ⟨W1, hW1⟩ : ∃ W1, (w.alloc (.deferred (some []))).alloc (.loop (rec .ready none)) = W1 := ⟨_, rfl⟩
  have hL1 : W1.heap[w.heap.size + 1]? = some (.loop (rec .ready none)) := by
    have := World.alloc_heap_new (w.alloc (.deferred (some []))) (.loop (rec .ready none))
    rw [← hW1]; rwa [World.size_alloc] at this
  have hD1 : W1.heap[w.heap.size]? = some (.deferred (some [])) := by
    rw [← hW1]; exact (Below.heap_alloc _ _ _ (by simp)).trans (World.alloc_heap_new w _)
  have hb1 : Below w.heap.size w W1 := by rw [← hW1]; exact ((Below.refl _ w).alloc (Nat.le_refl _) _).alloc (by simp) _
  have s1 : W1.heap.size = w.heap.size + 2 := by rw [← hW1]; simp
  have hI1 : I [] g0 W1 := hI _ _ _ _ h0 (Fr.below hb1 (Nat.le_refl _) (fun k e => by subst e; obtain ⟨cs, m, hc⟩ := hIg _ _ _ h0; exact far_lt hc))
  have hCaller : Caller (w.heap.size + 1) (w.heap.size + 2)
      (fun pre g W => I pre g W ∧ W.heap[w.heap.size + 1]? = some (.loop (rec .ready none)) ∧ W.heap[w.heap.size]? = some (.deferred (some [])))
      (fun pre g W => Ix pre g W ∧ W.heap[w.heap.size + 1]? = some (.loop (rec .done (some (.exit id)))) ∧ W.heap[w.heap.size]? = some (.deferred (some []))) (cellsL c r d s).length := by
    refine ⟨fun pre g W W' h hf => ⟨hI _ _ _ _ h.1 (hf.weaken (by omega)), (hf.block _ (.inl (by omega))).trans h.2.1, (hf.block _ (.inl (by omega))).trans h.2.2⟩,
      fun pre g W W' h hf => ⟨hIx _ _ _ _ h.1 (hf.weaken (by omega)), (hf.block _ (.inl (by omega))).trans h.2.1, (hf.block _ (.inl (by omega))).trans h.2.2⟩,
      fun pre k W h => hIg _ _ _ h.1, fun pre k W h => hIxg _ _ _ h.1, ?_⟩
    rintro m pre g x W ⟨hi, hl, hk⟩ hlen
    have hgc : ∀ {W' : World}, I pre g W' → ∀ k, g = some k → ∃ cs m, W'.heap[k]? = some (.cells cs 23 m) := fun h k e => by subst e; exact hIg _ _ _ h
    have hy := run_yield (P := Tryd.prog) (args := #[(Value.agg #[Value.int .i64 (x.1), Value.int .i64 (x.2), Value.bool false, Value.bool false])]) hl (by rw [hrec]; exact hps.symm)
    rw [hrec] at hy
    refine ⟨fn, _, assign, body, hy, roundIn_of_wpIn hfn (hassign _ _ pre g x W _ hi ?_)⟩
    clear hy
    intro a' Wa hra hia hax
    have notg : ∀ {b : Nat} {o : Obj}, W.heap[b]? = some o → o.isCells = false → some b ≠ g := fun {b o} hb hn e => by
      obtain ⟨cs, m, hc⟩ := hgc hi b e.symm
      rw [hc] at hb; cases hb; cases hn
    have n1 : some (w.heap.size + 1) ≠ g := notg hl rfl
    have n0 : some w.heap.size ≠ g := notg hk rfl
    have l1 : w.heap.size + 1 < W.heap.size := (Array.getElem?_eq_some_iff.1 hl).1
    have hla := (hra.block _ (by omega) n1 l1).trans hl
    have hka := (hra.block _ (Nat.le_refl _) n0 (by omega)).trans hk
    have l2 : w.heap.size + 1 < Wa.heap.size := (Array.getElem?_eq_some_iff.1 hla).1
    refine ⟨_, run_beginRound hla (by rw [hrec]), ?_⟩
    have hlb : (Wa.putObj (w.heap.size + 1) (.loop { rec .ready none with state := .busy })).heap[w.heap.size + 1]? = some (.loop { rec .ready none with state := .busy }) := World.putObj_heap_same l2
    have hkb : (Wa.putObj (w.heap.size + 1) (.loop { rec .ready none with state := .busy })).heap[w.heap.size]? = some (.deferred (some [])) := (World.putObj_heap_other (by omega)).trans hka
    have hib := hI _ _ _ _ hia (Fr.put (.loop { rec .ready none with state := .busy }) (by omega) hla rfl (hgc hia))
    have haxb := hAx _ _ _ _ _ (.loop { rec .ready none with state := .busy }) hax (by omega) hla rfl
    have hrb : Rd (w.heap.size + 2) g g W (Wa.putObj (w.heap.size + 1) (.loop { rec .ready none with state := .busy })) := (hra.weaken (by omega)).put (by omega) _
    refine wpIn_mono (hbody _ _ pre g x a' _ hib haxb hlen) ?_
    have fin : ∀ (jump : Option Code) (g' : Option Nat) (W3 : World), Rd w.heap.size g g' (Wa.putObj (w.heap.size + 1) (.loop { rec .ready none with state := .busy })) W3 →
        (Instr.endRound (w.heap.size + 1) jump).run Tryd.prog W3 = .ok (.bool jump.isNone) (W3.putObj (w.heap.size + 1) (.loop (rec (if jump.isNone then .ready else .done) jump))) ∧
        W3.heap[w.heap.size + 1]? = some (.loop { rec .ready none with state := .busy }) ∧
        (W3.putObj (w.heap.size + 1) (.loop (rec (if jump.isNone then .ready else .done) jump))).heap[w.heap.size + 1]? = some (.loop (rec (if jump.isNone then .ready else .done) jump)) ∧
        (W3.putObj (w.heap.size + 1) (.loop (rec (if jump.isNone then .ready else .done) jump))).heap[w.heap.size]? = some (.deferred (some [])) := fun jump g' W3 hr3 => by
      have hl3 := (hr3.block _ (by omega) n1 (Array.getElem?_eq_some_iff.1 hlb).1).trans hlb
      have hk3 := (hr3.block _ (Nat.le_refl _) n0 (Array.getElem?_eq_some_iff.1 hkb).1).trans hkb
      have := run_endRound (P := Tryd.prog) jump hl3
      rw [hrec] at this ⊢
      exact ⟨this, by rw [hrec] at hl3; exact hl3, World.putObj_heap_same (Array.getElem?_eq_some_iff.1 hl3).1, (World.putObj_heap_other (by omega)).trans hk3⟩
    rintro e a3 W3 hp
    cases e with
    | normal =>
      obtain ⟨g', hr3, hi3⟩ := hp
      obtain ⟨hr, hl3, hl4, hk4⟩ := fin none g' W3 hr3
      exact ⟨_, _, hr, g', (hrb.seq (hr3.weaken (by omega))).put (by omega) _, .inl ⟨rfl, hI _ _ _ _ hi3 (Fr.put _ (by omega) hl3 rfl (fun k e => by subst e; exact hIg _ _ _ hi3)), hl4, hk4⟩⟩
    | exit i =>
      obtain ⟨rfl, g', hr3, hi3⟩ := hp
      obtain ⟨hr, hl3, hl4, hk4⟩ := fin (some (.exit i)) g' W3 hr3
      exact ⟨_, _, hr, g', (hrb.seq (hr3.weaken (by omega))).put (by omega) _, .inr ⟨rfl, hIx _ _ _ _ hi3 (Fr.put _ (by omega) hl3 rfl (fun k e => by subst e; exact hIxg _ _ _ hi3)), hl4, hk4⟩⟩
    | ret => exact hp.elim
    | goto t => exact hp.elim
    | panic ch => exact hp.elim
    | outgrown => exact hp.elim
  have hcall := cells1 c r d s x y u v hCaller pa pb g0 W1 (by omega) (ha.on hb1 la) (hb.on hb1 lb) (by omega) (by omega) ⟨hI1, hL1, hD1⟩
  refine ⟨w.heap.size + 1, [{ target := .collected w.heap.size, args := #[] }], W1, { target := .fn (.func 41) #[.pointer (some ⟨pa, 0, none⟩), .pointer (some ⟨pb, 0, none⟩)], args := #[.func (.yield (w.heap.size + 1)) #[] #[]] }, W1, 41,
    #[.func (.yield (w.heap.size + 1)) #[] #[], .pointer (some ⟨pa, 0, none⟩), .pointer (some ⟨pb, 0, none⟩)], W1, ?_, ?_, fun _ _ => trivial, ?_, fun h => (by cases h), ?_⟩
  · rw [← hW1, hrec]; exact run_enterLoop_outer _ _ _ _ _
  · simp only [resolve, hev]
    simp [go_sem]
  · simp [invoke, go_sem, eg]
  · refine CallsIn.mono (show CallsIn Fence.wide (10 - 1) _ _ _ _ _ from hcall) ?_
    rintro e W2 ⟨⟨v, rfl⟩, g, (⟨hi, hl, hk⟩ | ⟨pre, hpre, hi, hl, hk⟩)⟩
    · exact ⟨none, _, by have := run_endLoop (P := Tryd.prog) hl (by rw [hrec]; simp); rw [hrec] at this; exact this,
        hdone _ g _ (Nat.le_refl _) (hI _ _ _ _ hi (Fr.put _ (by omega) hl rfl (fun k e => by subst e; exact hIg _ _ _ hi))) ((World.putObj_heap_other (by omega)).trans hk)⟩
    · exact ⟨some (.exit id), _, by have := run_endLoop (P := Tryd.prog) hl (by rw [hrec]; simp); rw [hrec] at this; exact this,
        hstop _ g pre _ (Nat.le_refl _) hpre (hIx _ _ _ _ hi (Fr.put _ (by omega) hl rfl (fun k e => by subst e; exact hIxg _ _ _ hi))) ((World.putObj_heap_other (by omega)).trans hk)⟩
end Go.Proofs.YtikcggbkkgipoaaDoor
