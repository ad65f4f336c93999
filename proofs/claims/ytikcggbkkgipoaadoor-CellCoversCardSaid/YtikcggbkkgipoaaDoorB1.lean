/-
  Package cell: between: the iterator over the ints from one to another.
-/
import Derived.Test.YtikcggbkkgipoaaDoorA5
import Derived.RangeFuncNested
import Derived.RangeFuncBound
import Derived.RangeFuncCalls
import Derived.RangeFuncLeaves
import Derived.Shelf.Abstract
import Derived.Shelf.RegionOpen
import Derived.WalkKit
import Derived.OwnWalkIn
import Derived.TacticsInMore
import Derived.LoopNIn
import Derived.LoopIn
namespace Go.Proofs.YtikcggbkkgipoaaDoor
open Go.RowKit Go.Shelf
attribute [local go_sem] Oper.semAt_some

/-- The first k ints from lo on. -/
def upto (lo : Int) (k : Nat) : List Int := (List.range k).map (fun (i : Nat) => lo + (i : Int))
theorem upto_zero (lo : Int) : upto lo 0 = [] := rfl
theorem upto_succ (lo : Int) (k : Nat) : upto lo (k + 1) = upto lo k ++ [lo + (k : Int)] := by
  unfold upto; rw [List.range_succ, List.map_append]; rfl
theorem upto_length (lo : Int) (k : Nat) : (upto lo k).length = k := by unfold upto; simp
theorem upto_prefix (lo : Int) {k n : Nat} (h : k ≤ n) : upto lo k <+: upto lo n := by
  induction n with
  | zero => obtain rfl : k = 0 := by omega
            exact List.prefix_refl _
  | succ n ih =>
    by_cases e : k = n + 1
    · subst e; exact List.prefix_refl _
    · rw [upto_succ]; exact (ih (by omega)).trans (List.prefix_append _ _)
/-- How many ints there are from lo to hi. -/
def span (lo hi : Int) : Nat := (hi + 1 - lo).toNat
/-- Two boxes lie as they lay. -/
def Keep2 (b1 b2 : Nat) (W W' : World) : Prop := W'.cell? ⟨b1, 0, none⟩ = W.cell? ⟨b1, 0, none⟩ ∧ W'.cell? ⟨b2, 0, none⟩ = W.cell? ⟨b2, 0, none⟩
theorem Keep2.t {b1 b2 : Nat} {A B C : World} (h : Keep2 b1 b2 A B) (k : Keep2 b1 b2 B C) : Keep2 b1 b2 A C := ⟨k.1.trans h.1, k.2.trans h.2⟩
theorem Keep2.rfl {b1 b2 : Nat} {A : World} : Keep2 b1 b2 A A := ⟨Eq.refl _, Eq.refl _⟩
theorem cell_putObj_other {W : World} {l b : Nat} (o : Obj) (h : b ≠ l) : (W.putObj l o).cell? ⟨b, 0, none⟩ = W.cell? ⟨b, 0, none⟩ :=
  World.cell?_of_block (w := W) (World.putObj_heap_other h)
theorem Keep2.b {b1 b2 : Nat} {w : World} (h1 : b1 < w.heap.size) (h2 : b2 < w.heap.size) (W : World) (l : Nat) (o o' : Obj) (hl : w.heap.size ≤ l) (_ : W.heap[l]? = some o) (_ : o.isCells = false) (_ : o.isWalk = false) : Keep2 b1 b2 W (W.putObj l o') :=
  ⟨cell_putObj_other _ (by omega), cell_putObj_other _ (by omega)⟩
/-- The function value that is handed back: it has captured the two boxes. -/
theorem between_call (F : Fence) (n : Nat) (h5 : F.fn 42) (hro : F.round = none) (lo hi : Int) (w : World) :
    CallsIn F n Tryd.prog 42 #[.int .i64 lo, .int .i64 hi] w fun e w' => e = .returned (.func (.func 44) #[] #[.pointer (some ⟨w.heap.size, 0, none⟩), .pointer (some ⟨w.heap.size + 1, 0, none⟩)]) ∧ w' = (w.alloc (.cells #[.int .i64 lo] 3)).alloc (.cells #[.int .i64 hi] 3) := by
  refine callsIn_of_wp Tryd.func42 rfl h5 ?_ hro
  simp only [Tryd.ntmps42, List.size_toArray, List.length_cons, List.length_nil, Nat.reduceAdd, Nat.reduceSub, Array.replicate_succ, Array.replicate_zero, List.push_toArray, List.append_toArray, List.nil_append, List.cons_append]
  gi_wp2
  go_ret
  exact ⟨rfl, rfl⟩
set_option maxRecDepth 100000 in
set_option maxHeartbeats 1000000 in
theorem between1 (F : Fence) (n : Nat) (h6 : F.fn 44) (hro : F.round = none) (hn : 1 ≤ n) (l b1 b2 : Nat) (lo hi : Int) (hl : -9223372036854775808 ≤ lo) (hh : hi < 9223372036854775807) (hlh : lo ≤ hi + 1) (J Jx : List Int → World → Prop)
    (hY : ∀ pre x W, J pre W → pre.length < span lo hi → YieldAt F (n - 1) Tryd.prog l #[.int .i64 x] W fun e W' =>
      (e = .returned (.bool true) ∧ J (pre ++ [x]) W' ∧ Keep2 b1 b2 W W') ∨ (e = .returned (.bool false) ∧ Jx (pre ++ [x]) W'))
    (W : World) (c1 : W.cell? ⟨b1, 0, none⟩ = some (.int .i64 lo)) (c2 : W.cell? ⟨b2, 0, none⟩ = some (.int .i64 hi)) (h0 : J [] W) :
    CallsIn F n Tryd.prog 44 #[.func (.yield l) #[] #[], .pointer (some ⟨b1, 0, none⟩), .pointer (some ⟨b2, 0, none⟩)] W fun e W' => (∃ v, e = .returned v) ∧
      ((∃ ys, ys = upto lo (span lo hi) ∧ J ys W') ∨ (∃ pre, pre <+: upto lo (span lo hi) ∧ Jx pre W')) := by
  refine callsIn_of_wp Tryd.func44 rfl h6 ?_ hro
  simp only [Tryd.ntmps44, List.size_toArray, List.length_cons, List.length_nil, Nat.reduceAdd, Nat.reduceSub, Array.replicate_succ, Array.replicate_zero, List.push_toArray, List.append_toArray, List.nil_append, List.cons_append]
  gi_wp2
  gi_loopw [4] (fun p wr => ∃ k : Nat, p = .int .i64 (lo + (k : Int)) ∧ k ≤ span lo hi ∧ wr.cell? ⟨b2, 0, none⟩ = some (.int .i64 hi) ∧ J (upto lo k) wr)
    (fun p wr => (hi + 1 - intOf p).toNat)
  case atStart =>
    exact ⟨0, by simp, Nat.zero_le _, c2, h0⟩
  case round =>
    obtain ⟨k, rfl, hk, c3, hJs⟩ := hrel
    have hs : span lo hi = (hi + 1 - lo).toNat := rfl
    by_cases hlt : lo + (k : Int) ≤ hi
    · obtain ⟨fn, tmps, assign, body, hy, hR⟩ := hY (upto lo k) (lo + (k : Int)) wr hJs (by rw [upto_length]; omega)
      have HS := Lib.hid hs
      have HK := Lib.hid hk
      clear hs hk
      gi_wp2
      refine hR.mono ?_
      rintro e W3 (⟨rfl, hJ3, hk3⟩ | ⟨rfl, hJx3⟩)
      · have c4 : W3.cell? ⟨b2, 0, none⟩ = some (.int .i64 hi) := hk3.2.trans c3
        have hw : IntKind.i64.wrap (lo + (k : Int) + 1) = lo + ((k + 1 : Nat) : Int) := by
          rw [IntKind.wrap_i64]; push_cast; omega
        gi_wp2
        go_roundw
        case rel =>
          refine ⟨k + 1, ?_, ?_, c4, ?_⟩
          · simp
          · have := HS.out; have := HK.out; omega
          · rw [upto_succ]; exact hJ3
        case measure => simp [intOf]; omega
      · gi_wp2
        go_end0
        refine ⟨⟨_, rfl⟩, .inr ⟨upto lo k ++ [lo + (k : Int)], ?_, hJx3⟩⟩
        rw [← upto_succ]
        exact upto_prefix lo (by have := HS.out; have := HK.out; omega)
    · have hkk : k = span lo hi := by omega
      have HH := Lib.hid hkk
      clear hkk hs hk
      gi_wp2
      refine ⟨fun _ h => (by cases h), ?_⟩
      gi_wp2
      go_end0
      refine ⟨⟨_, rfl⟩, .inl ⟨upto lo k, ?_, hJs⟩⟩
      rw [HH.out]
/-- **The contract of what between hands back.** -/
theorem between_stops (F : Fence) (n : Nat) (h6 : F.fn 44) (hro : F.round = none) (hn : 1 ≤ n) (b1 b2 : Nat) (lo hi : Int) (hl : -9223372036854775808 ≤ lo) (hh : hi < 9223372036854775807) (hlh : lo ≤ hi + 1) (w : World)
    (h1 : b1 < w.heap.size) (h2 : b2 < w.heap.size) (c1 : w.cell? ⟨b1, 0, none⟩ = some (.int .i64 lo)) (c2 : w.cell? ⟨b2, 0, none⟩ = some (.int .i64 hi)) :
    SeqStopsK F n Tryd.prog 44 #[.pointer (some ⟨b1, 0, none⟩), .pointer (some ⟨b2, 0, none⟩)] (fun x : Int => #[Value.int .i64 x]) (Keep2 b1 b2) (fun ys => ys = upto lo (span lo hi)) (fun pre => pre <+: upto lo (span lo hi)) (span lo hi) w := fun l J Jx W hW _ _ hY h0 =>
  between1 F n h6 hro hn l b1 b2 lo hi hl hh hlh J Jx hY W ((hW.cell (p := ⟨b1, 0, none⟩) h1).trans c1) ((hW.cell (p := ⟨b2, 0, none⟩) h2).trans c2) h0
end Go.Proofs.YtikcggbkkgipoaaDoor
