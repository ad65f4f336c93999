/-
  The document's answers to layer 4 (tabardref4): Of, Nat, zero, Exact.
-/
import Derived.Test.YthclnopdmmibiaaDoorM0
namespace Go.Proofs.YthclnopdmmibiaaDoor
open Go.RowKit Go.Shelf

theorem of_two (v : Int) (h : Word v) : (∀ x ∈ [v % 4294967296, v / 4294967296], Limb x) ∧ natV [v % 4294967296, v / 4294967296] = v := by
  obtain ⟨h0, h1⟩ := h
  refine ⟨fun x hx => ?_, by simp only [natV]; omega⟩
  simp only [List.mem_cons, List.not_mem_nil, or_false] at hx
  rcases hx with rfl | rfl <;> exact ⟨by omega, by omega⟩
set_option maxHeartbeats 1000000 in
theorem of_any (v : Int) (h : Word v) (w : World) : Calls Tryd.prog 48 #[.int .u64 v] w (NatPost v w) := by
  have e := of_two v h
  obtain ⟨h0, h1⟩ := h
  have HT : Hid (∀ W : World, W = w.alloc (.cells #[.int .u32 (v % 4294967296), .int .u32 (v / 4294967296)] 63) → Calls Tryd.prog 47 #[.slice (some ⟨w.heap.size, 0, none⟩) 2 2] W (NatPost v w)) := by
    rintro W rfl
    exact trim_own (lit_own w _ 2 rfl (by omega)) e.1 (by omega) (below_new _ _) e.2
  clear e
  go_enter Tryd.func48, Tryd.ntmps48
  go_wp2_with fail
  refine (HT.out _ rfl).mono ?_
  intro e w2 hp
  obtain ⟨A2, n2, c2, l2, rfl, hs2, hn2, hv2, fr2, hb2⟩ := hp
  have hp := Lib.hid (NatPost.mk hs2 hn2 hv2 fr2 hb2)
  clear hs2 hn2 hv2 hb2 fr2
  go_wp2
  go_ret
  exact hp.out
set_option maxHeartbeats 1000000 in
theorem nat3_any (v : Int) (h : Word v) (w : World) : Calls Tryd.prog 30 #[.int .u64 v] w (NatPost v w) := by
  have HT := Lib.hid (of_any v h w)
  clear h
  go_enter Tryd.func30, Tryd.ntmps30
  go_wp2_with fail
  refine HT.out.mono ?_
  intro e w2 hp
  obtain ⟨A2, n2, c2, l2, rfl, hs2, hn2, hv2, fr2, hb2⟩ := hp
  have hp := Lib.hid (NatPost.mk hs2 hn2 hv2 fr2 hb2)
  clear hs2 hn2 hv2 hb2 fr2
  go_wp2
  go_ret
  exact hp.out
theorem zero_any (b : Bool) (w : World) : Calls Tryd.prog 18 #[.bool b] w fun e w' => e = .returned (.int .u64 (signI b)) ∧ w = w' := by
  cases b
  all_goals
    go_enter Tryd.func18, Tryd.ntmps18
    go_wp2
    go_ret
    exact ⟨rfl, rfl⟩

/-- What Exact answers: the sign, and the natural of the number times 2^1074. -/
def SignedPost (P : Bool → Int → Prop) (w : World) (e : Ending) (w' : World) : Prop :=
  ∃ (s : Bool) (A : Option Addr) (n c : Nat) (l : List Int), e = .returned (.agg #[.bool s, .slice A n c]) ∧ Sl w' w'.heap.size A n c l ∧ Norm l ∧ P s (natV l) ∧ Below w.heap.size w w'
set_option maxHeartbeats 2000000 in
theorem exact_any (x : Int) (h : Word x) (w : World) : Calls Tryd.prog 21 #[.int .u64 x] w (SignedPost (fun s v => s = negB x ∧ v = XI x) w) := by
  have SP := Lib.hid (fun W => rsplit_any x h W)
  obtain ⟨m0, m1, p0, p1⟩ := mant_bd x h
  have NC := Lib.hid (fun W => nat3_any (mantI x) ⟨m0, by omega⟩ W)
  have M1 := Lib.hid m1
  have hx : Hid (XI x = mantI x * pw (powI x + 1074)) := rfl
  generalize negB x = s at *
  generalize mantI x = m at *
  generalize powI x = p at *
  generalize XI x = X at *
  have q0 : 0 ≤ p + 1074 := by omega
  clear h
  go_enter Tryd.func21, Tryd.ntmps21
  go_wp2_with fail
  refine (SP.out _).mono ?_
  rintro e w' ⟨rfl, rfl⟩
  go_wp2_with fail
  refine (NC.out _).mono ?_
  rintro e w2 ⟨A2, n2, c2, l2, rfl, hs2, hn2, hv2, fr2, hb2⟩
  have n2b : n2 ≤ 8 := hs2.small hn2 (by rw [hv2]; have := M1.out; omega)
  have CU := Lib.hid (rup_any A2 n2 c2 l2 (p + 1074) w2 hs2 (by omega) (by omega) (by omega))
  have zb : w.heap.size < w2.heap.size := by have := hb2.size; simp at this; omega
  have fa : ∀ i, w2.frozen? ⟨w.heap.size, i, none⟩ = false := fun i => by rw [(bcell hb2).2 _ _ (by simp)]; simp [go_sem]
  have ca0 : w2.cell? ⟨w.heap.size, 0, none⟩ = some (.bool false) := by rw [(bcell hb2).1 _ _ (by simp)]; simp [go_sem]
  have ca1 : w2.cell? ⟨w.heap.size, 1, none⟩ = some (.slice none 0 0) := by rw [(bcell hb2).1 _ _ (by simp)]; simp [go_sem]
  have hB2 : Below w.heap.size w w2 := (below_new _ _).trans (hb2.mono (by simp))
  have hv2 := Lib.hid hv2
  go_wp2_with fail
  refine CU.out.mono ?_
  rintro e w3 ⟨A3, n3, c3, l3, rfl, hs3, hn3, hv3, fr3, hb3⟩
  have fz0 : w3.frozen? ⟨w.heap.size, 0, none⟩ = false := by rw [(bcell hb3).2 _ _ zb]; exact fa 0
  have fz1 : w3.frozen? ⟨w.heap.size, 1, none⟩ = false := by rw [(bcell hb3).2 _ _ zb]; exact fa 1
  have cb0 : w3.cell? ⟨w.heap.size, 0, none⟩ = some (.bool false) := by rw [(bcell hb3).1 _ _ zb]; exact ca0
  have cb1 : w3.cell? ⟨w.heap.size, 1, none⟩ = some (.slice none 0 0) := by rw [(bcell hb3).1 _ _ zb]; exact ca1
  have hB3 : Below w.heap.size w w3 := hB2.trans (hb3.mono hB2.size)
  have fr3 : Fresh (w.heap.size + 1) A3 := fr3.mono zb
  have fin : Hid (natV l3 = X) := by unfold Hid; rw [hv3, hv2.out, hx.out]
  have H3 := Lib.hid hs3; have HN := Lib.hid hn3; have HF := Lib.hid fr3
  clear fa ca0 ca1 hb2 hb3 hs2 hn2 fr2 hv3 CU SP NC hs3 hn3 fr3 hB2
  go_wp2
  refine bodyPost_ret (v := .agg #[.bool s, .slice A3 n3 c3]) (by simp [results, Tryd.results21, go_sem, cb0, cb1]) rfl ?_
  exact ⟨s, A3, n3, c3, l3, rfl, (((H3.out.far HF.out).far HF.out).more (by simp [World.setCell])), HN.out, ⟨rfl, fin.out⟩, (hB3.setCell (Nat.le_refl _) _).setCell (Nat.le_refl _) _⟩

/-- The boxes of two signed naturals, the result's cell behind them. -/
theorem keepP {w1 w2 : World} {p : Nat} {u0 u1 v0 v1 : Option Value} {W : World} (h : w1.cell? ⟨p, 0, none⟩ = u0 ∧ w1.cell? ⟨p, 1, none⟩ = u1 ∧ w1.cell? ⟨p + 1, 0, none⟩ = v0 ∧ w1.cell? ⟨p + 1, 1, none⟩ = v1 ∧ w1.cell? ⟨p + 1 + 1, 0, none⟩ = some (.bool false) ∧ w1.cell? ⟨p + 1 + 1, 1, none⟩ = some (.slice none 0 0) ∧ w1.frozen? ⟨p + 1 + 1, 0, none⟩ = false ∧ w1.frozen? ⟨p + 1 + 1, 1, none⟩ = false ∧ p + 1 + 1 < w1.heap.size ∧ Below p W w1) (hb : Below w1.heap.size w1 w2) :
    w2.cell? ⟨p, 0, none⟩ = u0 ∧ w2.cell? ⟨p, 1, none⟩ = u1 ∧ w2.cell? ⟨p + 1, 0, none⟩ = v0 ∧ w2.cell? ⟨p + 1, 1, none⟩ = v1 ∧ w2.cell? ⟨p + 1 + 1, 0, none⟩ = some (.bool false) ∧ w2.cell? ⟨p + 1 + 1, 1, none⟩ = some (.slice none 0 0) ∧ w2.frozen? ⟨p + 1 + 1, 0, none⟩ = false ∧ w2.frozen? ⟨p + 1 + 1, 1, none⟩ = false ∧ p + 1 + 1 < w2.heap.size ∧ Below p W w2 := by
  obtain ⟨h1, h2, h3, h4, h5, h6, h7, h8, h9, h10⟩ := h
  exact ⟨by rw [(bcell hb).1 _ _ (by omega)]; exact h1, by rw [(bcell hb).1 _ _ (by omega)]; exact h2, by rw [(bcell hb).1 _ _ (by omega)]; exact h3, by rw [(bcell hb).1 _ _ (by omega)]; exact h4, by rw [(bcell hb).1 _ _ (by omega)]; exact h5, by rw [(bcell hb).1 _ _ (by omega)]; exact h6, by rw [(bcell hb).2 _ _ (by omega)]; exact h7, by rw [(bcell hb).2 _ _ (by omega)]; exact h8, Nat.lt_of_lt_of_le h9 hb.size, h10.trans (hb.mono (by omega))⟩
theorem drewP {w1 : World} {p : Nat} {u0 u1 v0 v1 : Option Value} {W : World} (h : w1.cell? ⟨p, 0, none⟩ = u0 ∧ w1.cell? ⟨p, 1, none⟩ = u1 ∧ w1.cell? ⟨p + 1, 0, none⟩ = v0 ∧ w1.cell? ⟨p + 1, 1, none⟩ = v1 ∧ w1.cell? ⟨p + 1 + 1, 0, none⟩ = some (.bool false) ∧ w1.cell? ⟨p + 1 + 1, 1, none⟩ = some (.slice none 0 0) ∧ w1.frozen? ⟨p + 1 + 1, 0, none⟩ = false ∧ w1.frozen? ⟨p + 1 + 1, 1, none⟩ = false ∧ p + 1 + 1 < w1.heap.size ∧ Below p W w1) :
    w1.drew.cell? ⟨p, 0, none⟩ = u0 ∧ w1.drew.cell? ⟨p, 1, none⟩ = u1 ∧ w1.drew.cell? ⟨p + 1, 0, none⟩ = v0 ∧ w1.drew.cell? ⟨p + 1, 1, none⟩ = v1 ∧ w1.drew.cell? ⟨p + 1 + 1, 0, none⟩ = some (.bool false) ∧ w1.drew.cell? ⟨p + 1 + 1, 1, none⟩ = some (.slice none 0 0) ∧ w1.drew.frozen? ⟨p + 1 + 1, 0, none⟩ = false ∧ w1.drew.frozen? ⟨p + 1 + 1, 1, none⟩ = false ∧ p + 1 + 1 < w1.drew.heap.size ∧ Below p W w1.drew := by
  obtain ⟨h1, h2, h3, h4, h5, h6, h7, h8, h9, h10⟩ := h
  exact ⟨h1, h2, h3, h4, h5, h6, h7, h8, h9, h10.drew⟩

set_option maxRecDepth 100000 in
set_option maxHeartbeats 4000000 in
theorem signed_any (a b : Int) (h1 : Word a) (h2 : Word b) (A B : Option Addr) (n m c d : Nat) (l k : List Int) (w : World) (hs : Sl w w.heap.size A n c l) (ht : Sl w w.heap.size B m d k) (hn : n ≤ 100000) (hm : m ≤ 100000) (va : natV l = XI a) (vb : natV k = XI b) :
    Calls Tryd.prog 20 #[.agg #[.bool (negB a), .slice A n c], .agg #[.bool (negB b), .slice B m d]] w (SignedPost (IsSum (sX a + sX b)) w) := by
  obtain ⟨na, ha⟩ : ∃ z, negB a = z := ⟨_, rfl⟩
  obtain ⟨nb, hb⟩ : ∃ z, negB b = z := ⟨_, rfl⟩
  rw [ha, hb]
  have hP := Lib.hid (fun W (h : Below w.heap.size w W) => rplus_any A B n m c d l k W (hs.on h) (ht.on h) (by omega) (by omega))
  have hC := Lib.hid (fun W (h : Below w.heap.size w W) => rcmp_any A B n m c d l k W (hs.on h) (ht.on h) (by omega) (by omega))
  have hL1 := Lib.hid (fun W (h : Below w.heap.size w W) (hle : natV k ≤ natV l) => rless_any A B n m c d l k W (hs.on h) (ht.on h) (by omega) (by omega) hle)
  have hL2 := Lib.hid (fun W (h : Below w.heap.size w W) (hle : natV l ≤ natV k) => rless_any B A m n d c k l W (ht.on h) (hs.on h) (by omega) (by omega) hle)
  have VA := Lib.hid va; have VB := Lib.hid vb
  clear va vb
  by_cases e : (na == nb) = true
  · have e' : na = nb := by simpa using e
    have fin := Lib.hid (sum_same h1 h2 ha (hb.trans e'.symm))
    have e'' := Lib.hid e'
    clear hs ht ha hb hC hL1 hL2 e' h1 h2
    go_enter Tryd.func20, Tryd.ntmps20
    go_wp2_with fail
    obtain ⟨W0, hW0⟩ : ∃ W0, ((w.alloc (.cells #[.bool na, .slice A n c] 36)).alloc (.cells #[.bool nb, .slice B m d] 36)).alloc (.cells #[.bool false, .slice none 0 0] 36) = W0 := ⟨_, rfl⟩
    have S0 : W0.cell? ⟨w.heap.size, 0, none⟩ = some (.bool na) ∧ W0.cell? ⟨w.heap.size, 1, none⟩ = some (.slice A n c) ∧ W0.cell? ⟨w.heap.size + 1, 0, none⟩ = some (.bool nb) ∧ W0.cell? ⟨w.heap.size + 1, 1, none⟩ = some (.slice B m d) ∧ W0.cell? ⟨w.heap.size + 1 + 1, 0, none⟩ = some (.bool false) ∧ W0.cell? ⟨w.heap.size + 1 + 1, 1, none⟩ = some (.slice none 0 0) ∧ W0.frozen? ⟨w.heap.size + 1 + 1, 0, none⟩ = false ∧ W0.frozen? ⟨w.heap.size + 1 + 1, 1, none⟩ = false ∧ w.heap.size + 1 + 1 < W0.heap.size ∧ Below w.heap.size w W0 := by
      rw [← hW0]
      exact ⟨by simp [go_sem], by simp [go_sem], by simp [go_sem], by simp [go_sem], by simp [go_sem], by simp [go_sem], by simp [go_sem], by simp [go_sem], by first | (simp; done) | (simp; omega), ((below_new _ _).alloc (by simp) _).alloc (by first | (simp; done) | (simp; omega)) _⟩
    rw [hW0]
    clear hW0
    have SS := Lib.hid (drewP S0)
    obtain ⟨g1, g2, g3, g4, g5, g6, g7, g8, g9, g10⟩ := S0
    clear g10
    go_region_with ((go_at_call 36; refine (hP.out _ SS.out.2.2.2.2.2.2.2.2.2).mono ?_; rintro e x1 ⟨A3, n3, c3, l3, rfl, hs3, hn3, hv3, fr3, hx1⟩; obtain ⟨k1, k2, k3, k4, k5, k6, k7, k8, k9, k10⟩ := keepP SS.out hx1; have HV : Hid (natV l3 = XI a + XI b) := hv3.trans (by rw [VA.out, VB.out]); have H3 := Lib.hid hs3; have HN := Lib.hid hn3; have HF := Lib.hid (show Fresh (w.heap.size + 1 + 1 + 1) A3 from fr3.mono (by simp; omega)); clear hs3 hn3 hv3 fr3 hx1))
    all_goals
      go_wp2
      refine bodyPost_ret (v := .agg #[.bool na, .slice A3 n3 c3]) (by simp [results, Tryd.results20, go_sem, k5, k6]) rfl ?_
      exact ⟨na, A3, n3, c3, l3, rfl, (((H3.out.far HF.out).far HF.out).more (by simp [World.setCell])), HN.out, by rw [HV.out]; exact fin.out, (k10.setCell (by show w.heap.size ≤ w.heap.size + 1 + 1; omega) _).setCell (by show w.heap.size ≤ w.heap.size + 1 + 1; omega) _⟩
  · have e : (na == nb) = false := by simpa using e
    by_cases hge : XI b ≤ XI a
    · have fin := Lib.hid (sum_ge ha hb e hge)
      have cc : Hid (natV k ≤ natV l) := by unfold Hid; rw [VA.out, VB.out]; exact hge
      have crn : Hid (∃ r, 0 ≤ r ∧ cmpI (natV l) (natV k) = r) := by
        refine ⟨_, ?_, rfl⟩
        have := cc.out
        unfold cmpI; rw [if_neg (by omega)]; split <;> decide
      obtain ⟨r, r0, hr⟩ := crn.out
      have crn := Lib.hid hr
      clear hr hL2 hge
      clear hs ht ha hb hP h1 h2
      go_enter Tryd.func20, Tryd.ntmps20
      go_wp2_with fail
      obtain ⟨W0, hW0⟩ : ∃ W0, ((w.alloc (.cells #[.bool na, .slice A n c] 36)).alloc (.cells #[.bool nb, .slice B m d] 36)).alloc (.cells #[.bool false, .slice none 0 0] 36) = W0 := ⟨_, rfl⟩
      have S0 : W0.cell? ⟨w.heap.size, 0, none⟩ = some (.bool na) ∧ W0.cell? ⟨w.heap.size, 1, none⟩ = some (.slice A n c) ∧ W0.cell? ⟨w.heap.size + 1, 0, none⟩ = some (.bool nb) ∧ W0.cell? ⟨w.heap.size + 1, 1, none⟩ = some (.slice B m d) ∧ W0.cell? ⟨w.heap.size + 1 + 1, 0, none⟩ = some (.bool false) ∧ W0.cell? ⟨w.heap.size + 1 + 1, 1, none⟩ = some (.slice none 0 0) ∧ W0.frozen? ⟨w.heap.size + 1 + 1, 0, none⟩ = false ∧ W0.frozen? ⟨w.heap.size + 1 + 1, 1, none⟩ = false ∧ w.heap.size + 1 + 1 < W0.heap.size ∧ Below w.heap.size w W0 := by
        rw [← hW0]
        exact ⟨by simp [go_sem], by simp [go_sem], by simp [go_sem], by simp [go_sem], by simp [go_sem], by simp [go_sem], by simp [go_sem], by simp [go_sem], by first | (simp; done) | (simp; omega), ((below_new _ _).alloc (by simp) _).alloc (by first | (simp; done) | (simp; omega)) _⟩
      rw [hW0]
      clear hW0
      go_wp2_with fail
      refine (hC.out _ S0.2.2.2.2.2.2.2.2.2).mono ?_
      rintro e w1 ⟨rfl, hb1⟩
      have S1 := keepP S0 hb1
      clear S0 hb1 hC
      rw [crn.out]
      have SS := Lib.hid (drewP S1)
      obtain ⟨g1, g2, g3, g4, g5, g6, g7, g8, g9, g10⟩ := S1
      clear g10
      go_wp2
      go_region_with ((go_at_call 38; refine (hL1.out _ SS.out.2.2.2.2.2.2.2.2.2 cc.out).mono ?_; rintro e x1 ⟨A3, n3, c3, l3, rfl, hs3, hn3, hv3, fr3, hx1⟩; obtain ⟨k1, k2, k3, k4, k5, k6, k7, k8, k9, k10⟩ := keepP SS.out hx1; have HV : Hid (natV l3 = XI a - XI b) := hv3.trans (by rw [VA.out, VB.out]); have H3 := Lib.hid hs3; have HN := Lib.hid hn3; have HF := Lib.hid (show Fresh (w.heap.size + 1 + 1 + 1) A3 from fr3.mono (by simp; omega)); clear hs3 hn3 hv3 fr3 hx1))
      all_goals
        go_wp2
        refine bodyPost_ret (v := .agg #[.bool na, .slice A3 n3 c3]) (by simp [results, Tryd.results20, go_sem, k5, k6]) rfl ?_
        exact ⟨na, A3, n3, c3, l3, rfl, (((H3.out.far HF.out).far HF.out).more (by simp [World.setCell])), HN.out, by rw [HV.out]; exact fin.out, (k10.setCell (by show w.heap.size ≤ w.heap.size + 1 + 1; omega) _).setCell (by show w.heap.size ≤ w.heap.size + 1 + 1; omega) _⟩
    · have fin := Lib.hid (sum_lt ha hb e (by omega))
      have cc : Hid (natV l ≤ natV k) := by unfold Hid; rw [VA.out, VB.out]; omega
      have crn : Hid (∃ r, r < 0 ∧ cmpI (natV l) (natV k) = r) := by
        refine ⟨_, ?_, rfl⟩
        unfold cmpI; rw [VA.out, VB.out, if_pos (by omega)]; decide
      obtain ⟨r, r0, hr⟩ := crn.out
      have crn := Lib.hid hr
      clear hr hL1 hge
      clear hs ht ha hb hP h1 h2
      go_enter Tryd.func20, Tryd.ntmps20
      go_wp2_with fail
      obtain ⟨W0, hW0⟩ : ∃ W0, ((w.alloc (.cells #[.bool na, .slice A n c] 36)).alloc (.cells #[.bool nb, .slice B m d] 36)).alloc (.cells #[.bool false, .slice none 0 0] 36) = W0 := ⟨_, rfl⟩
      have S0 : W0.cell? ⟨w.heap.size, 0, none⟩ = some (.bool na) ∧ W0.cell? ⟨w.heap.size, 1, none⟩ = some (.slice A n c) ∧ W0.cell? ⟨w.heap.size + 1, 0, none⟩ = some (.bool nb) ∧ W0.cell? ⟨w.heap.size + 1, 1, none⟩ = some (.slice B m d) ∧ W0.cell? ⟨w.heap.size + 1 + 1, 0, none⟩ = some (.bool false) ∧ W0.cell? ⟨w.heap.size + 1 + 1, 1, none⟩ = some (.slice none 0 0) ∧ W0.frozen? ⟨w.heap.size + 1 + 1, 0, none⟩ = false ∧ W0.frozen? ⟨w.heap.size + 1 + 1, 1, none⟩ = false ∧ w.heap.size + 1 + 1 < W0.heap.size ∧ Below w.heap.size w W0 := by
        rw [← hW0]
        exact ⟨by simp [go_sem], by simp [go_sem], by simp [go_sem], by simp [go_sem], by simp [go_sem], by simp [go_sem], by simp [go_sem], by simp [go_sem], by first | (simp; done) | (simp; omega), ((below_new _ _).alloc (by simp) _).alloc (by first | (simp; done) | (simp; omega)) _⟩
      rw [hW0]
      clear hW0
      go_wp2_with fail
      refine (hC.out _ S0.2.2.2.2.2.2.2.2.2).mono ?_
      rintro e w1 ⟨rfl, hb1⟩
      have S1 := keepP S0 hb1
      clear S0 hb1 hC
      rw [crn.out]
      have SS := Lib.hid (drewP S1)
      obtain ⟨g1, g2, g3, g4, g5, g6, g7, g8, g9, g10⟩ := S1
      clear g10
      go_wp2
      go_region_with ((go_at_call 38; refine (hL2.out _ SS.out.2.2.2.2.2.2.2.2.2 cc.out).mono ?_; rintro e x1 ⟨A3, n3, c3, l3, rfl, hs3, hn3, hv3, fr3, hx1⟩; obtain ⟨k1, k2, k3, k4, k5, k6, k7, k8, k9, k10⟩ := keepP SS.out hx1; have HV : Hid (natV l3 = XI b - XI a) := hv3.trans (by rw [VA.out, VB.out]); have H3 := Lib.hid hs3; have HN := Lib.hid hn3; have HF := Lib.hid (show Fresh (w.heap.size + 1 + 1 + 1) A3 from fr3.mono (by simp; omega)); clear hs3 hn3 hv3 fr3 hx1))
      all_goals
        go_wp2
        refine bodyPost_ret (v := .agg #[.bool nb, .slice A3 n3 c3]) (by simp [results, Tryd.results20, go_sem, k5, k6]) rfl ?_
        exact ⟨nb, A3, n3, c3, l3, rfl, (((H3.out.far HF.out).far HF.out).more (by simp [World.setCell])), HN.out, by rw [HV.out]; exact fin.out, (k10.setCell (by show w.heap.size ≤ w.heap.size + 1 + 1; omega) _).setCell (by show w.heap.size ≤ w.heap.size + 1 + 1; omega) _⟩
end Go.Proofs.YthclnopdmmibiaaDoor
