/-
  The statement FloatJoins, walked.
-/
import Derived.Test.YtogldkjhcmlneaaL11
import Derived.Test.YtogldkjhcmlneaaN2
import Derived.Test.YtogldkjhcmlneaaD1
namespace Go.Proofs.Ytogldkjhcmlneaa
open Go.RowKit Go.Shelf

theorem rround_len (neg : Bool) (A : Option Addr) (n c : Nat) (l : List Int) (e : Int) (more : Bool) (w : World) (h : Sl w w.heap.size A n c l) (hn : n ≤ 3000) (he0 : -9223372036854775808 ≤ e) (he1 : e ≤ 9223372036854775807) {v r : Int} (hv : natV l = v) (hr : joinV neg v e (blen v) more = r) :
    Calls Try.prog 36 #[.bool neg, .slice A n c, .int .i64 e, .bool more] w (WordPost r w) := by
  refine (rround_any neg A n c l e more w h hn he0 he1).mono ?_
  rintro en w' ⟨L, hL, rfl, hb⟩
  refine ⟨?_, hb⟩
  obtain ⟨k, rfl, hk⟩ := hL.bits
  rw [joinV_len hk, hv, hr]
theorem join_len (neg : Bool) (h l e : Int) (more : Bool) (h1 : Word h) (h2 : Word l) (he0 : -9223372036854775808 ≤ e) (he1 : e ≤ 9223372036854775807) (w : World) {r : Int} (hr : joinV neg (val h l) e (blen (val h l)) more = r) :
    Calls Try.prog 35 #[.bool neg, .agg #[.int .u64 h, .int .u64 l], .int .i64 e, .bool more] w (WordPost r w) := by
  refine (join_any neg h l e more h1 h2 he0 he1 w).mono ?_
  intro en w' hp
  obtain ⟨n, _, g1, g2, rfl, hb⟩ := join_full (val_nonneg h1 h2).1 hp
  refine ⟨?_, hb⟩
  rw [joinV_len (show Bits (val h l) n from ⟨(val_nonneg h1 h2).1, g1, g2⟩), hr]
theorem keep2 {W w1 w2 : World} {p : Nat} {u0 u1 : Option Value} (h : w1.cell? ⟨p, 0, none⟩ = u0 ∧ w1.cell? ⟨p, 1, none⟩ = u1 ∧ Below W.heap.size W w1) (hp : p < W.heap.size) (hb : Below w1.heap.size w1 w2) :
    w2.cell? ⟨p, 0, none⟩ = u0 ∧ w2.cell? ⟨p, 1, none⟩ = u1 ∧ Below W.heap.size W w2 := by
  obtain ⟨h1, h2, h5⟩ := h
  have hp := Nat.lt_of_lt_of_le hp h5.size
  exact ⟨by rw [(bcell hb).1 _ _ hp]; exact h1, by rw [(bcell hb).1 _ _ hp]; exact h2, h5.trans (hb.mono h5.size)⟩

set_option maxRecDepth 100000 in
set_option maxHeartbeats 8000000 in
theorem joins_any (neg : Bool) (ah al e : Int) (more : Bool) (h1 : Word ah) (h2 : Word al) (he0 : -9223372036854775808 ≤ e) (he1 : e ≤ 9223372036854775807) (w : World) :
    Calls Try.prog 6 #[.bool neg, .agg #[.int .u64 ah, .int .u64 al], .int .i64 e, .bool more] w (TruePost w) := by
  obtain ⟨r, hr⟩ : ∃ r, joinV neg (val ah al) e (blen (val ah al)) more = r := ⟨_, rfl⟩
  have JC := Lib.hid (fun W => join_len neg ah al e more h1 h2 he0 he1 W hr)
  have NC := Lib.hid (fun W => rnat_any 0 ah al (by decide) h1 h2 W)
  have Va := Lib.hid (val_nonneg h1 h2)
  have RC := Lib.hid (fun A n c l W h hn (hv : natV l = val3 0 ah al) => rround_len neg A n c l e more W h hn he0 he1 (hv.trans (by unfold val3 val; omega)) hr)
  clear h1 h2 hr he0 he1
  go_enter Try.func6, Try.ntmps6
  go_wp2_with fail
  refine (shown3_any _).mono ?_
  rintro en w1 ⟨rfl, hb1⟩
  have sz := hb1.size
  simp at sz
  have zb : w.heap.size < w1.heap.size := by omega
  have c0 : w1.cell? ⟨w.heap.size, 0, none⟩ = some (.int .u64 ah) := by rw [(bcell hb1).1 _ _ (by simp)]; simp [go_sem]
  have c1 : w1.cell? ⟨w.heap.size, 1, none⟩ = some (.int .u64 al) := by rw [(bcell hb1).1 _ _ (by simp)]; simp [go_sem]
  have hB : Below w.heap.size w w1 := (below_new _ _).trans (hb1.mono (by simp))
  clear hb1
  go_wp2
  have SS : w1.drew.cell? ⟨w.heap.size, 0, none⟩ = some (.int .u64 ah) ∧ w1.drew.cell? ⟨w.heap.size, 1, none⟩ = some (.int .u64 al) ∧ Below w1.heap.size w1 w1.drew := ⟨c0, c1, (Below.refl _ _).drew⟩
  have SS := Lib.hid SS
  go_region_held3 (fun w' => w'.cell? ⟨w.heap.size, 0, none⟩ = some (.int .u64 ah) ∧ w'.cell? ⟨w.heap.size, 1, none⟩ = some (.int .u64 al) ∧ Below w1.heap.size w1 w')
    (first | exact SS.out | exact keep2 (by assumption) (by omega) (by assumption))
    (first
      | (go_at_call 35; refine (JC.out _).mono ?_; rintro en x1 ⟨rfl, hx1⟩)
      | (go_at_call 17; refine (NC.out _).mono ?_; rintro en x2 ⟨A2, n2, c2, l2, rfl, hs2, hn2, hv2, _, hx2⟩; have hn2 := Lib.hid hn2; have hv2 := Lib.hid hv2)
      | (go_at_call 36; refine (RC.out A2 n2 c2 l2 _ hs2 (by have := hs2.small hn2.out (by rw [hv2.out]; have := Va.out.2; unfold val at this; unfold val3; omega); omega) hv2.out).mono ?_; rintro en x3 ⟨rfl, hx3⟩))
  have hS : x3.cell? ⟨w.heap.size, 0, none⟩ = some (.int .u64 ah) ∧ x3.cell? ⟨w.heap.size, 1, none⟩ = some (.int .u64 al) ∧ Below w1.heap.size w1 x3 := by assumption
  have fin : Below w.heap.size w x3 := hB.trans (hS.2.2.mono hB.size)
  go_wp2
  go_ret
  exact ⟨by simp, fin⟩
end Go.Proofs.Ytogldkjhcmlneaa
