/-
  The document's sums of naturals with signs: of any two.
-/
import Derived.Test.YtnefacnceemklaaDoorX5
namespace Go.Proofs.YtnefacnceemklaaDoor
open Go.RowKit Go.Shelf

def sgn (s : Bool) (v : Int) : Int := if s = true then -v else v
theorem sgn_same {X Y : Int} {n m : Bool} (hx : 0 ≤ X) (hy : 0 ≤ Y) (e : n = m) : IsSum (sgn n X + sgn m Y) n (X + Y) := by
  subst e
  refine ⟨by omega, ?_⟩
  unfold sgn; cases n <;> simp <;> omega
theorem sgn_ge {X Y : Int} {n m : Bool} (_hx : 0 ≤ X) (_hy : 0 ≤ Y) (hne : (n == m) = false) (hge : Y ≤ X) : IsSum (sgn n X + sgn m Y) n (X - Y) := by
  refine ⟨by omega, ?_⟩
  unfold sgn; cases n <;> cases m <;> simp at hne <;> simp <;> omega
theorem sgn_lt {X Y : Int} {n m : Bool} (_hx : 0 ≤ X) (_hy : 0 ≤ Y) (hne : (n == m) = false) (hlt : X < Y) : IsSum (sgn n X + sgn m Y) m (Y - X) := by
  refine ⟨by omega, ?_⟩
  unfold sgn; cases n <;> cases m <;> simp at hne <;> simp <;> omega
set_option maxRecDepth 100000 in
set_option maxHeartbeats 4000000 in
theorem plus_sgn (na nb : Bool) (X Y : Int) (X0 : 0 ≤ X) (Y0 : 0 ≤ Y) (A B : Option Addr) (n m c d : Nat) (l k : List Int) (w : World) (hs : Sl w w.heap.size A n c l) (ht : Sl w w.heap.size B m d k) (hn : n ≤ 100000) (hm : m ≤ 100000) (va : natV l = X) (vb : natV k = Y) :
    Calls Tryd.prog 54 #[.agg #[.bool na, .slice A n c], .agg #[.bool nb, .slice B m d]] w (SignedPost (IsSum (sgn na X + sgn nb Y)) w) := by
  have hP := Lib.hid (fun W (h : Below w.heap.size w W) => rplus_any A B n m c d l k W (hs.on h) (ht.on h) (by omega) (by omega))
  have hC := Lib.hid (fun W (h : Below w.heap.size w W) => rcmp_any A B n m c d l k W (hs.on h) (ht.on h) (by omega) (by omega))
  have hL1 := Lib.hid (fun W (h : Below w.heap.size w W) (hle : natV k ≤ natV l) => rless_any A B n m c d l k W (hs.on h) (ht.on h) (by omega) (by omega) hle)
  have hL2 := Lib.hid (fun W (h : Below w.heap.size w W) (hle : natV l ≤ natV k) => rless_any B A m n d c k l W (ht.on h) (hs.on h) (by omega) (by omega) hle)
  have VA := Lib.hid va; have VB := Lib.hid vb
  clear va vb
  by_cases e : (na == nb) = true
  · have e' : na = nb := by simpa using e
    have fin := Lib.hid (sgn_same X0 Y0 e')
    have e'' := Lib.hid e'
    clear hs ht hC hL1 hL2 e' X0 Y0
    go_enter Tryd.func54, Tryd.ntmps54
    go_wp2_with fail
    obtain ⟨W0, hW0⟩ : ∃ W0, ((w.alloc (.cells #[.bool na, .slice A n c] 61)).alloc (.cells #[.bool nb, .slice B m d] 61)).alloc (.cells #[.bool false, .slice none 0 0] 61) = W0 := ⟨_, rfl⟩
    have S0 : W0.cell? ⟨w.heap.size, 0, none⟩ = some (.bool na) ∧ W0.cell? ⟨w.heap.size, 1, none⟩ = some (.slice A n c) ∧ W0.cell? ⟨w.heap.size + 1, 0, none⟩ = some (.bool nb) ∧ W0.cell? ⟨w.heap.size + 1, 1, none⟩ = some (.slice B m d) ∧ W0.cell? ⟨w.heap.size + 1 + 1, 0, none⟩ = some (.bool false) ∧ W0.cell? ⟨w.heap.size + 1 + 1, 1, none⟩ = some (.slice none 0 0) ∧ W0.frozen? ⟨w.heap.size + 1 + 1, 0, none⟩ = false ∧ W0.frozen? ⟨w.heap.size + 1 + 1, 1, none⟩ = false ∧ w.heap.size + 1 + 1 < W0.heap.size ∧ Below w.heap.size w W0 := by
      rw [← hW0]
      exact ⟨by simp [go_sem], by simp [go_sem], by simp [go_sem], by simp [go_sem], by simp [go_sem], by simp [go_sem], by simp [go_sem], by simp [go_sem], by first | (simp; done) | (simp; omega), ((below_new _ _).alloc (by simp) _).alloc (by first | (simp; done) | (simp; omega)) _⟩
    rw [hW0]
    clear hW0
    have SS := Lib.hid (drewP S0)
    obtain ⟨g1, g2, g3, g4, g5, g6, g7, g8, g9, g10⟩ := S0
    clear g10
    go_region_with ((go_at_call 92; refine (hP.out _ SS.out.2.2.2.2.2.2.2.2.2).mono ?_; rintro e x1 ⟨A3, n3, c3, l3, rfl, hs3, hn3, hv3, fr3, hx1⟩; obtain ⟨k1, k2, k3, k4, k5, k6, k7, k8, k9, k10⟩ := keepP SS.out hx1; have HV : Hid (natV l3 = X + Y) := hv3.trans (by rw [VA.out, VB.out]); have H3 := Lib.hid hs3; have HN := Lib.hid hn3; have HF := Lib.hid (show Fresh (w.heap.size + 1 + 1 + 1) A3 from fr3.mono (by simp; omega)); clear hs3 hn3 hv3 fr3 hx1))
    all_goals
      go_wp2
      refine bodyPost_ret (v := .agg #[.bool na, .slice A3 n3 c3]) (by simp [results, Tryd.results54, go_sem, k5, k6]) rfl ?_
      exact ⟨na, A3, n3, c3, l3, rfl, (((H3.out.far HF.out).far HF.out).more (by simp [World.setCell])), HN.out, by rw [HV.out]; exact fin.out, (k10.setCell (by show w.heap.size ≤ w.heap.size + 1 + 1; omega) _).setCell (by show w.heap.size ≤ w.heap.size + 1 + 1; omega) _⟩
  · have e : (na == nb) = false := by simpa using e
    by_cases hge : Y ≤ X
    · have fin := Lib.hid (sgn_ge X0 Y0 e hge)
      have cc : Hid (natV k ≤ natV l) := by unfold Hid; rw [VA.out, VB.out]; exact hge
      have crn : Hid (∃ r, 0 ≤ r ∧ cmpI (natV l) (natV k) = r) := by
        refine ⟨_, ?_, rfl⟩
        have := cc.out
        unfold cmpI; rw [if_neg (by omega)]; split <;> decide
      obtain ⟨r, r0, hr⟩ := crn.out
      have crn := Lib.hid hr
      clear hr hL2 hge
      clear hs ht hP X0 Y0
      go_enter Tryd.func54, Tryd.ntmps54
      go_wp2_with fail
      obtain ⟨W0, hW0⟩ : ∃ W0, ((w.alloc (.cells #[.bool na, .slice A n c] 61)).alloc (.cells #[.bool nb, .slice B m d] 61)).alloc (.cells #[.bool false, .slice none 0 0] 61) = W0 := ⟨_, rfl⟩
      have S0 : W0.cell? ⟨w.heap.size, 0, none⟩ = some (.bool na) ∧ W0.cell? ⟨w.heap.size, 1, none⟩ = some (.slice A n c) ∧ W0.cell? ⟨w.heap.size + 1, 0, none⟩ = some (.bool nb) ∧ W0.cell? ⟨w.heap.size + 1, 1, none⟩ = some (.slice B m d) ∧ W0.cell? ⟨w.heap.size + 1 + 1, 0, none⟩ = some (.bool false) ∧ W0.cell? ⟨w.heap.size + 1 + 1, 1, none⟩ = some (.slice none 0 0) ∧ W0.frozen? ⟨w.heap.size + 1 + 1, 0, none⟩ = false ∧ W0.frozen? ⟨w.heap.size + 1 + 1, 1, none⟩ = false ∧ w.heap.size + 1 + 1 < W0.heap.size ∧ Below w.heap.size w W0 := by
        rw [← hW0]
        exact ⟨by simp [go_sem], by simp [go_sem], by simp [go_sem], by simp [go_sem], by simp [go_sem], by simp [go_sem], by simp [go_sem], by simp [go_sem], by first | (simp; done) | (simp; omega), ((below_new _ _).alloc (by simp) _).alloc (by first | (simp; done) | (simp; omega)) _⟩
      rw [hW0]
      clear hW0
      go_wp2_with fail
      refine (hC.out _ S0.2.2.2.2.2.2.2.2.2).mono ?_
      rintro e w1 ⟨rfl, hb1⟩
      have S1 := keepP S0 hb1
      clear S0 hb1 hC
      rw [crn.out]
      have SS := Lib.hid (drewP S1)
      obtain ⟨g1, g2, g3, g4, g5, g6, g7, g8, g9, g10⟩ := S1
      clear g10
      go_wp2
      go_region_with ((go_at_call 79; refine (hL1.out _ SS.out.2.2.2.2.2.2.2.2.2 cc.out).mono ?_; rintro e x1 ⟨A3, n3, c3, l3, rfl, hs3, hn3, hv3, fr3, hx1⟩; obtain ⟨k1, k2, k3, k4, k5, k6, k7, k8, k9, k10⟩ := keepP SS.out hx1; have HV : Hid (natV l3 = X - Y) := hv3.trans (by rw [VA.out, VB.out]); have H3 := Lib.hid hs3; have HN := Lib.hid hn3; have HF := Lib.hid (show Fresh (w.heap.size + 1 + 1 + 1) A3 from fr3.mono (by simp; omega)); clear hs3 hn3 hv3 fr3 hx1))
      all_goals
        go_wp2
        refine bodyPost_ret (v := .agg #[.bool na, .slice A3 n3 c3]) (by simp [results, Tryd.results54, go_sem, k5, k6]) rfl ?_
        exact ⟨na, A3, n3, c3, l3, rfl, (((H3.out.far HF.out).far HF.out).more (by simp [World.setCell])), HN.out, by rw [HV.out]; exact fin.out, (k10.setCell (by show w.heap.size ≤ w.heap.size + 1 + 1; omega) _).setCell (by show w.heap.size ≤ w.heap.size + 1 + 1; omega) _⟩
    · have fin := Lib.hid (sgn_lt X0 Y0 e (by omega))
      have cc : Hid (natV l ≤ natV k) := by unfold Hid; rw [VA.out, VB.out]; omega
      have crn : Hid (∃ r, r < 0 ∧ cmpI (natV l) (natV k) = r) := by
        refine ⟨_, ?_, rfl⟩
        unfold cmpI; rw [VA.out, VB.out, if_pos (by omega)]; decide
      obtain ⟨r, r0, hr⟩ := crn.out
      have crn := Lib.hid hr
      clear hr hL1 hge
      clear hs ht hP X0 Y0
      go_enter Tryd.func54, Tryd.ntmps54
      go_wp2_with fail
      obtain ⟨W0, hW0⟩ : ∃ W0, ((w.alloc (.cells #[.bool na, .slice A n c] 61)).alloc (.cells #[.bool nb, .slice B m d] 61)).alloc (.cells #[.bool false, .slice none 0 0] 61) = W0 := ⟨_, rfl⟩
      have S0 : W0.cell? ⟨w.heap.size, 0, none⟩ = some (.bool na) ∧ W0.cell? ⟨w.heap.size, 1, none⟩ = some (.slice A n c) ∧ W0.cell? ⟨w.heap.size + 1, 0, none⟩ = some (.bool nb) ∧ W0.cell? ⟨w.heap.size + 1, 1, none⟩ = some (.slice B m d) ∧ W0.cell? ⟨w.heap.size + 1 + 1, 0, none⟩ = some (.bool false) ∧ W0.cell? ⟨w.heap.size + 1 + 1, 1, none⟩ = some (.slice none 0 0) ∧ W0.frozen? ⟨w.heap.size + 1 + 1, 0, none⟩ = false ∧ W0.frozen? ⟨w.heap.size + 1 + 1, 1, none⟩ = false ∧ w.heap.size + 1 + 1 < W0.heap.size ∧ Below w.heap.size w W0 := by
        rw [← hW0]
        exact ⟨by simp [go_sem], by simp [go_sem], by simp [go_sem], by simp [go_sem], by simp [go_sem], by simp [go_sem], by simp [go_sem], by simp [go_sem], by first | (simp; done) | (simp; omega), ((below_new _ _).alloc (by simp) _).alloc (by first | (simp; done) | (simp; omega)) _⟩
      rw [hW0]
      clear hW0
      go_wp2_with fail
      refine (hC.out _ S0.2.2.2.2.2.2.2.2.2).mono ?_
      rintro e w1 ⟨rfl, hb1⟩
      have S1 := keepP S0 hb1
      clear S0 hb1 hC
      rw [crn.out]
      have SS := Lib.hid (drewP S1)
      obtain ⟨g1, g2, g3, g4, g5, g6, g7, g8, g9, g10⟩ := S1
      clear g10
      go_wp2
      go_region_with ((go_at_call 79; refine (hL2.out _ SS.out.2.2.2.2.2.2.2.2.2 cc.out).mono ?_; rintro e x1 ⟨A3, n3, c3, l3, rfl, hs3, hn3, hv3, fr3, hx1⟩; obtain ⟨k1, k2, k3, k4, k5, k6, k7, k8, k9, k10⟩ := keepP SS.out hx1; have HV : Hid (natV l3 = Y - X) := hv3.trans (by rw [VA.out, VB.out]); have H3 := Lib.hid hs3; have HN := Lib.hid hn3; have HF := Lib.hid (show Fresh (w.heap.size + 1 + 1 + 1) A3 from fr3.mono (by simp; omega)); clear hs3 hn3 hv3 fr3 hx1))
      all_goals
        go_wp2
        refine bodyPost_ret (v := .agg #[.bool nb, .slice A3 n3 c3]) (by simp [results, Tryd.results54, go_sem, k5, k6]) rfl ?_
        exact ⟨nb, A3, n3, c3, l3, rfl, (((H3.out.far HF.out).far HF.out).more (by simp [World.setCell])), HN.out, by rw [HV.out]; exact fin.out, (k10.setCell (by show w.heap.size ≤ w.heap.size + 1 + 1; omega) _).setCell (by show w.heap.size ≤ w.heap.size + 1 + 1; omega) _⟩
end Go.Proofs.YtnefacnceemklaaDoor
