/-
  Stage 6: the document's Round and Nat by number.
-/
import Derived.Test.YtnefacnceemklaaDoorG0
import Derived.Test.YtnefacnceemklaaDoorX4
namespace Go.Proofs.YtnefacnceemklaaDoor
open Go.RowKit Go.Shelf

theorem kind_zero {x : Int} : kindI x = 0 ↔ absI x = 0 := by
  have : 0 ≤ absI x := by unfold absI; omega
  unfold kindI
  repeat' split
  all_goals omega
theorem joinV_len {neg more : Bool} {v e : Int} {n : Nat} (h : Bits v n) : joinV neg v e n more = joinV neg v e (blen v) more := by
  by_cases hz : v = 0
  · unfold joinV; rw [if_pos (.inl hz), if_pos (.inl hz)]
  · rw [blen_of hz h]
theorem rround_len (neg : Bool) (A : Option Addr) (n c : Nat) (l : List Int) (e : Int) (w : World) (h : Sl w w.heap.size A n c l) (hn : n ≤ 3000) (he0 : -9223372036854775808 ≤ e) (he1 : e ≤ 9223372036854775807) {v r : Int} (hv : natV l = v) (hr : rndI neg v e = r) :
    Calls Tryd.prog 46 #[.bool neg, .slice A n c, .int .i64 e, .bool false] w (WordPost r w) := by
  refine (rround_any neg A n c l e false w h hn he0 he1).mono ?_
  rintro en w' ⟨L, hL, rfl, hb⟩
  refine ⟨?_, hb⟩
  obtain ⟨k, rfl, hk⟩ := hL.bits
  rw [joinV_len hk, hv, ← hr]; rfl
theorem of_two (v : Int) (h : Word v) : (∀ x ∈ [v % 4294967296, v / 4294967296], Limb x) ∧ natV [v % 4294967296, v / 4294967296] = v := by
  obtain ⟨h0, h1⟩ := h
  refine ⟨fun x hx => ?_, by simp only [natV]; omega⟩
  simp only [List.mem_cons, List.not_mem_nil, or_false] at hx
  rcases hx with rfl | rfl <;> exact ⟨by omega, by omega⟩
set_option maxHeartbeats 1000000 in
theorem of_any (v : Int) (h : Word v) (w : World) : Calls Tryd.prog 81 #[.int .u64 v] w (NatPost v w) := by
  have e := of_two v h
  obtain ⟨h0, h1⟩ := h
  have HT : Hid (∀ W : World, W = w.alloc (.cells #[.int .u32 (v % 4294967296), .int .u32 (v / 4294967296)] 84) → Calls Tryd.prog 80 #[.slice (some ⟨w.heap.size, 0, none⟩) 2 2] W (NatPost v w)) := by
    rintro W rfl
    exact trim_own (lit_own w _ 2 rfl (by omega)) e.1 (by omega) (below_new _ _) e.2
  clear e
  go_enter Tryd.func81, Tryd.ntmps81
  go_wp2_with fail
  refine (HT.out _ rfl).mono ?_
  intro e w2 hp
  obtain ⟨A2, n2, c2, l2, rfl, hs2, hn2, hv2, fr2, hb2⟩ := hp
  have hp := Lib.hid (NatPost.mk hs2 hn2 hv2 fr2 hb2)
  clear hs2 hn2 hv2 hb2 fr2
  go_wp2
  go_ret
  exact hp.out
set_option maxHeartbeats 1000000 in
theorem nat3_any (v : Int) (h : Word v) (w : World) : Calls Tryd.prog 45 #[.int .u64 v] w (NatPost v w) := by
  have HT := Lib.hid (of_any v h w)
  clear h
  go_enter Tryd.func45, Tryd.ntmps45
  go_wp2_with fail
  refine HT.out.mono ?_
  intro e w2 hp
  obtain ⟨A2, n2, c2, l2, rfl, hs2, hn2, hv2, fr2, hb2⟩ := hp
  have hp := Lib.hid (NatPost.mk hs2 hn2 hv2 fr2 hb2)
  clear hs2 hn2 hv2 hb2 fr2
  go_wp2
  go_ret
  exact hp.out
end Go.Proofs.YtnefacnceemklaaDoor
