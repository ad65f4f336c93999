import Derived.Test.YtnefacnceemklaaDoorX2
import Derived.Test.YtnefacnceemklaaDoorX4
/-
  Sums of signed naturals: plain facts.
-/
namespace Go.Proofs.YtnefacnceemklaaDoor
open Go.RowKit Go.Shelf

theorem sign_abs (x : Int) (h : Word x) : signI (negB x) + absI x = x := by
  unfold signI negB absI Word at *
  by_cases c : 9223372036854775808 ≤ x
  · rw [decide_eq_true c]; simp; omega
  · rw [decide_eq_false c]; simp; omega
theorem sX_ne {x : Int} (h : Word x) (hk : kindI x < 3) (h0 : kindI x ≠ 0) : 1 ≤ XI x := by
  have := XI_zero x h (fin_of_kind h hk)
  have := XI_nonneg x h
  have := nz_of_kind h hk h0
  omega
theorem R_pos {s : Int} (h : 0 ≤ s) : R s = rndI false s (-1074) := by
  unfold R
  by_cases c : s = 0
  · rw [if_pos c, c, rnd_zero]; rfl
  · rw [if_neg c, if_neg (by omega), decide_eq_false (by omega)]
theorem R_min {s : Int} (h : s < 0) : R s = rndI true (-s) (-1074) := by
  unfold R
  rw [if_neg (by omega), if_pos h, decide_eq_true h]
theorem R_of (b : Bool) {v : Int} (h : 1 ≤ v) : R (if b = true then -v else v) = rndI b v (-1074) := by
  cases b
  · exact R_pos (by simp; omega)
  · have := R_min (s := -v) (by omega)
    rw [Int.neg_neg] at this; exact this
theorem kind_zero {x : Int} : kindI x = 0 ↔ absI x = 0 := by
  have : 0 ≤ absI x := by unfold absI; omega
  unfold kindI
  repeat' split
  all_goals omega
theorem R_self {x : Int} (h : Word x) (hk : kindI x < 3) (h0 : kindI x ≠ 0) : R (sX x) = x := by
  unfold sX
  rw [R_of _ (sX_ne h hk h0), rnd_neg, rnd_self x h (fin_of_kind h hk), sign_abs x h]
theorem sX_zero {x : Int} (h : Word x) (h0 : kindI x = 0) : sX x = 0 := by
  have := (XI_zero x h (fin_of_kind h (by omega))).2 (kind_zero.1 h0)
  unfold sX; rw [this]; split <;> rfl

theorem zero_val {x : Int} (h : Word x) (hk : kindI x = 0) : x = 0 ∨ x = 9223372036854775808 := by
  unfold kindI absI at hk
  unfold Word at h
  repeat' split at hk
  all_goals omega
theorem and_zeros {a b : Int} (h1 : Word a) (h2 : Word b) (ha : kindI a = 0) (hb : kindI b = 0) : bits .and .u64 a b = if a = 9223372036854775808 ∧ b = 9223372036854775808 then 9223372036854775808 else 0 := by
  rcases zero_val h1 ha with rfl | rfl <;> rcases zero_val h2 hb with rfl | rfl <;> decide


/-- A natural with a sign, that is the signed sum s. -/
structure IsSum (s : Int) (b : Bool) (v : Int) : Prop where
  v0 : 0 ≤ v
  e : s = if b = true then -v else v
theorem sum_same {a b : Int} (h1 : Word a) (h2 : Word b) {n : Bool} (ha : negB a = n) (hb : negB b = n) : IsSum (sX a + sX b) n (XI a + XI b) := by
  have p := XI_nonneg a h1
  have q := XI_nonneg b h2
  refine ⟨by omega, ?_⟩
  unfold sX; rw [ha, hb]; cases n <;> simp <;> omega
theorem sum_ge {a b : Int} {n m : Bool} (ha : negB a = n) (hb : negB b = m) (hne : (n == m) = false) (hge : XI b ≤ XI a) : IsSum (sX a + sX b) n (XI a - XI b) := by
  refine ⟨by omega, ?_⟩
  unfold sX; rw [ha, hb]; cases n <;> cases m <;> simp at hne <;> simp <;> omega
theorem sum_lt {a b : Int} {n m : Bool} (ha : negB a = n) (hb : negB b = m) (hne : (n == m) = false) (hlt : XI a < XI b) : IsSum (sX a + sX b) m (XI b - XI a) := by
  refine ⟨by omega, ?_⟩
  unfold sX; rw [ha, hb]; cases n <;> cases m <;> simp at hne <;> simp <;> omega
/-- What is rounded of it. -/
theorem sum_zero {s : Int} {b : Bool} (h : IsSum s b 0) : R s = 0 := by
  have : s = 0 := by rw [h.e]; cases b <;> rfl
  rw [this]; rfl
theorem sum_round {s : Int} {b : Bool} {v : Int} (h : IsSum s b v) (hv : v ≠ 0) : R s = rndI b v (-1074) := by
  have := h.v0
  rw [h.e]; exact R_of b (by omega)
/-- Add's answer at finite numbers, not both zero. -/
theorem add_finite {a b : Int} (h1 : Word a) (h2 : Word b) (ka : kindI a < 3) (kb : kindI b < 3) (hz : ¬(kindI a = 0 ∧ kindI b = 0)) : addV a b = R (sX a + sX b) := by
  unfold addV addK
  rw [if_neg (by omega), if_neg (by omega), if_neg (by omega)]
  by_cases a0 : kindI a = 0
  · rw [if_pos a0, if_neg (by omega), sX_zero h1 a0, Int.zero_add, R_self h2 kb (by omega)]
  · rw [if_neg a0]
    by_cases b0 : kindI b = 0
    · rw [if_pos b0, sX_zero h2 b0, Int.add_zero, R_self h1 ka a0]
    · rw [if_neg b0]
theorem add_zeros {a b : Int} (h1 : Word a) (h2 : Word b) (ka : kindI a = 0) (kb : kindI b = 0) : addV a b = signI (negB a && negB b) := by
  unfold addV addK
  rw [if_neg (by omega), if_neg (by omega), if_neg (by omega), if_pos ka, if_pos kb]
  rcases zero_val h1 ka with rfl | rfl <;> rcases zero_val h2 kb with rfl | rfl <;> decide
theorem joinV_len {neg more : Bool} {v e : Int} {n : Nat} (h : Bits v n) : joinV neg v e n more = joinV neg v e (blen v) more := by
  by_cases hz : v = 0
  · unfold joinV; rw [if_pos (.inl hz), if_pos (.inl hz)]
  · rw [blen_of hz h]
theorem rround_len (neg : Bool) (A : Option Addr) (n c : Nat) (l : List Int) (e : Int) (w : World) (h : Sl w w.heap.size A n c l) (hn : n ≤ 3000) (he0 : -9223372036854775808 ≤ e) (he1 : e ≤ 9223372036854775807) {v r : Int} (hv : natV l = v) (hr : rndI neg v e = r) :
    Calls Tryd.prog 46 #[.bool neg, .slice A n c, .int .i64 e, .bool false] w (WordPost r w) := by
  refine (rround_any neg A n c l e false w h hn he0 he1).mono ?_
  rintro en w' ⟨L, hL, rfl, hb⟩
  refine ⟨?_, hb⟩
  obtain ⟨k, rfl, hk⟩ := hL.bits
  rw [joinV_len hk, hv, ← hr]; rfl
end Go.Proofs.YtnefacnceemklaaDoor

/-
  The document's answers to layer 4 (tabardref4): Of, Nat, zero, Exact.
-/
namespace Go.Proofs.YtnefacnceemklaaDoor
open Go.RowKit Go.Shelf

theorem of_two (v : Int) (h : Word v) : (∀ x ∈ [v % 4294967296, v / 4294967296], Limb x) ∧ natV [v % 4294967296, v / 4294967296] = v := by
  obtain ⟨h0, h1⟩ := h
  refine ⟨fun x hx => ?_, by simp only [natV]; omega⟩
  simp only [List.mem_cons, List.not_mem_nil, or_false] at hx
  rcases hx with rfl | rfl <;> exact ⟨by omega, by omega⟩
set_option maxHeartbeats 1000000 in
theorem of_any (v : Int) (h : Word v) (w : World) : Calls Tryd.prog 81 #[.int .u64 v] w (NatPost v w) := by
  have e := of_two v h
  obtain ⟨h0, h1⟩ := h
  have HT : Hid (∀ W : World, W = w.alloc (.cells #[.int .u32 (v % 4294967296), .int .u32 (v / 4294967296)] 84) → Calls Tryd.prog 80 #[.slice (some ⟨w.heap.size, 0, none⟩) 2 2] W (NatPost v w)) := by
    rintro W rfl
    exact trim_own (lit_own w _ 2 rfl (by omega)) e.1 (by omega) (below_new _ _) e.2
  clear e
  go_enter Tryd.func81, Tryd.ntmps81
  go_wp2_with fail
  refine (HT.out _ rfl).mono ?_
  intro e w2 hp
  obtain ⟨A2, n2, c2, l2, rfl, hs2, hn2, hv2, fr2, hb2⟩ := hp
  have hp := Lib.hid (NatPost.mk hs2 hn2 hv2 fr2 hb2)
  clear hs2 hn2 hv2 hb2 fr2
  go_wp2
  go_ret
  exact hp.out
set_option maxHeartbeats 1000000 in
theorem nat3_any (v : Int) (h : Word v) (w : World) : Calls Tryd.prog 45 #[.int .u64 v] w (NatPost v w) := by
  have HT := Lib.hid (of_any v h w)
  clear h
  go_enter Tryd.func45, Tryd.ntmps45
  go_wp2_with fail
  refine HT.out.mono ?_
  intro e w2 hp
  obtain ⟨A2, n2, c2, l2, rfl, hs2, hn2, hv2, fr2, hb2⟩ := hp
  have hp := Lib.hid (NatPost.mk hs2 hn2 hv2 fr2 hb2)
  clear hs2 hn2 hv2 hb2 fr2
  go_wp2
  go_ret
  exact hp.out
theorem zero_any (b : Bool) (w : World) : Calls Tryd.prog 93 #[.bool b] w fun e w' => e = .returned (.int .u64 (signI b)) ∧ w = w' := by
  cases b
  all_goals
    go_enter Tryd.func93, Tryd.ntmps93
    go_wp2
    go_ret
    exact ⟨rfl, rfl⟩

/-- What Exact answers: the sign, and the natural of the number times 2^1074. -/
def SignedPost (P : Bool → Int → Prop) (w : World) (e : Ending) (w' : World) : Prop :=
  ∃ (s : Bool) (A : Option Addr) (n c : Nat) (l : List Int), e = .returned (.agg #[.bool s, .slice A n c]) ∧ Sl w' w'.heap.size A n c l ∧ Norm l ∧ P s (natV l) ∧ Below w.heap.size w w'
set_option maxHeartbeats 2000000 in
theorem exact_any (x : Int) (h : Word x) (w : World) : Calls Tryd.prog 53 #[.int .u64 x] w (SignedPost (fun s v => s = negB x ∧ v = XI x) w) := by
  have SP := Lib.hid (fun W => rsplit_any x h W)
  obtain ⟨m0, m1, p0, p1⟩ := mant_bd x h
  have NC := Lib.hid (fun W => nat3_any (mantI x) ⟨m0, by omega⟩ W)
  have M1 := Lib.hid m1
  have hx : Hid (XI x = mantI x * pw (powI x + 1074)) := rfl
  generalize negB x = s at *
  generalize mantI x = m at *
  generalize powI x = p at *
  generalize XI x = X at *
  have q0 : 0 ≤ p + 1074 := by omega
  clear h
  go_enter Tryd.func53, Tryd.ntmps53
  go_wp2_with fail
  refine (SP.out _).mono ?_
  rintro e w' ⟨rfl, rfl⟩
  go_wp2_with fail
  refine (NC.out _).mono ?_
  rintro e w2 ⟨A2, n2, c2, l2, rfl, hs2, hn2, hv2, fr2, hb2⟩
  have n2b : n2 ≤ 8 := hs2.small hn2 (by rw [hv2]; have := M1.out; omega)
  have CU := Lib.hid (rup_any A2 n2 c2 l2 (p + 1074) w2 hs2 (by omega) (by omega) (by omega))
  have zb : w.heap.size < w2.heap.size := by have := hb2.size; simp at this; omega
  have fa : ∀ i, w2.frozen? ⟨w.heap.size, i, none⟩ = false := fun i => by rw [(bcell hb2).2 _ _ (by simp)]; simp [go_sem]
  have ca0 : w2.cell? ⟨w.heap.size, 0, none⟩ = some (.bool false) := by rw [(bcell hb2).1 _ _ (by simp)]; simp [go_sem]
  have ca1 : w2.cell? ⟨w.heap.size, 1, none⟩ = some (.slice none 0 0) := by rw [(bcell hb2).1 _ _ (by simp)]; simp [go_sem]
  have hB2 : Below w.heap.size w w2 := (below_new _ _).trans (hb2.mono (by simp))
  have hv2 := Lib.hid hv2
  go_wp2_with fail
  refine CU.out.mono ?_
  rintro e w3 ⟨A3, n3, c3, l3, rfl, hs3, hn3, hv3, fr3, hb3⟩
  have fz0 : w3.frozen? ⟨w.heap.size, 0, none⟩ = false := by rw [(bcell hb3).2 _ _ zb]; exact fa 0
  have fz1 : w3.frozen? ⟨w.heap.size, 1, none⟩ = false := by rw [(bcell hb3).2 _ _ zb]; exact fa 1
  have cb0 : w3.cell? ⟨w.heap.size, 0, none⟩ = some (.bool false) := by rw [(bcell hb3).1 _ _ zb]; exact ca0
  have cb1 : w3.cell? ⟨w.heap.size, 1, none⟩ = some (.slice none 0 0) := by rw [(bcell hb3).1 _ _ zb]; exact ca1
  have hB3 : Below w.heap.size w w3 := hB2.trans (hb3.mono hB2.size)
  have fr3 : Fresh (w.heap.size + 1) A3 := fr3.mono zb
  have fin : Hid (natV l3 = X) := by unfold Hid; rw [hv3, hv2.out, hx.out]
  have H3 := Lib.hid hs3; have HN := Lib.hid hn3; have HF := Lib.hid fr3
  clear fa ca0 ca1 hb2 hb3 hs2 hn2 fr2 hv3 CU SP NC hs3 hn3 fr3 hB2
  go_wp2
  refine bodyPost_ret (v := .agg #[.bool s, .slice A3 n3 c3]) (by simp [results, Tryd.results53, go_sem, cb0, cb1]) rfl ?_
  exact ⟨s, A3, n3, c3, l3, rfl, (((H3.out.far HF.out).far HF.out).more (by simp [World.setCell])), HN.out, ⟨rfl, fin.out⟩, (hB3.setCell (Nat.le_refl _) _).setCell (Nat.le_refl _) _⟩

/-- The boxes of two signed naturals, the result's cell behind them. -/
theorem keepP {w1 w2 : World} {p : Nat} {u0 u1 v0 v1 : Option Value} {W : World} (h : w1.cell? ⟨p, 0, none⟩ = u0 ∧ w1.cell? ⟨p, 1, none⟩ = u1 ∧ w1.cell? ⟨p + 1, 0, none⟩ = v0 ∧ w1.cell? ⟨p + 1, 1, none⟩ = v1 ∧ w1.cell? ⟨p + 1 + 1, 0, none⟩ = some (.bool false) ∧ w1.cell? ⟨p + 1 + 1, 1, none⟩ = some (.slice none 0 0) ∧ w1.frozen? ⟨p + 1 + 1, 0, none⟩ = false ∧ w1.frozen? ⟨p + 1 + 1, 1, none⟩ = false ∧ p + 1 + 1 < w1.heap.size ∧ Below p W w1) (hb : Below w1.heap.size w1 w2) :
    w2.cell? ⟨p, 0, none⟩ = u0 ∧ w2.cell? ⟨p, 1, none⟩ = u1 ∧ w2.cell? ⟨p + 1, 0, none⟩ = v0 ∧ w2.cell? ⟨p + 1, 1, none⟩ = v1 ∧ w2.cell? ⟨p + 1 + 1, 0, none⟩ = some (.bool false) ∧ w2.cell? ⟨p + 1 + 1, 1, none⟩ = some (.slice none 0 0) ∧ w2.frozen? ⟨p + 1 + 1, 0, none⟩ = false ∧ w2.frozen? ⟨p + 1 + 1, 1, none⟩ = false ∧ p + 1 + 1 < w2.heap.size ∧ Below p W w2 := by
  obtain ⟨h1, h2, h3, h4, h5, h6, h7, h8, h9, h10⟩ := h
  exact ⟨by rw [(bcell hb).1 _ _ (by omega)]; exact h1, by rw [(bcell hb).1 _ _ (by omega)]; exact h2, by rw [(bcell hb).1 _ _ (by omega)]; exact h3, by rw [(bcell hb).1 _ _ (by omega)]; exact h4, by rw [(bcell hb).1 _ _ (by omega)]; exact h5, by rw [(bcell hb).1 _ _ (by omega)]; exact h6, by rw [(bcell hb).2 _ _ (by omega)]; exact h7, by rw [(bcell hb).2 _ _ (by omega)]; exact h8, Nat.lt_of_lt_of_le h9 hb.size, h10.trans (hb.mono (by omega))⟩
theorem drewP {w1 : World} {p : Nat} {u0 u1 v0 v1 : Option Value} {W : World} (h : w1.cell? ⟨p, 0, none⟩ = u0 ∧ w1.cell? ⟨p, 1, none⟩ = u1 ∧ w1.cell? ⟨p + 1, 0, none⟩ = v0 ∧ w1.cell? ⟨p + 1, 1, none⟩ = v1 ∧ w1.cell? ⟨p + 1 + 1, 0, none⟩ = some (.bool false) ∧ w1.cell? ⟨p + 1 + 1, 1, none⟩ = some (.slice none 0 0) ∧ w1.frozen? ⟨p + 1 + 1, 0, none⟩ = false ∧ w1.frozen? ⟨p + 1 + 1, 1, none⟩ = false ∧ p + 1 + 1 < w1.heap.size ∧ Below p W w1) :
    w1.drew.cell? ⟨p, 0, none⟩ = u0 ∧ w1.drew.cell? ⟨p, 1, none⟩ = u1 ∧ w1.drew.cell? ⟨p + 1, 0, none⟩ = v0 ∧ w1.drew.cell? ⟨p + 1, 1, none⟩ = v1 ∧ w1.drew.cell? ⟨p + 1 + 1, 0, none⟩ = some (.bool false) ∧ w1.drew.cell? ⟨p + 1 + 1, 1, none⟩ = some (.slice none 0 0) ∧ w1.drew.frozen? ⟨p + 1 + 1, 0, none⟩ = false ∧ w1.drew.frozen? ⟨p + 1 + 1, 1, none⟩ = false ∧ p + 1 + 1 < w1.drew.heap.size ∧ Below p W w1.drew := by
  obtain ⟨h1, h2, h3, h4, h5, h6, h7, h8, h9, h10⟩ := h
  exact ⟨h1, h2, h3, h4, h5, h6, h7, h8, h9, h10.drew⟩

set_option maxRecDepth 100000 in
set_option maxHeartbeats 4000000 in
theorem signed_any (a b : Int) (h1 : Word a) (h2 : Word b) (A B : Option Addr) (n m c d : Nat) (l k : List Int) (w : World) (hs : Sl w w.heap.size A n c l) (ht : Sl w w.heap.size B m d k) (hn : n ≤ 100000) (hm : m ≤ 100000) (va : natV l = XI a) (vb : natV k = XI b) :
    Calls Tryd.prog 54 #[.agg #[.bool (negB a), .slice A n c], .agg #[.bool (negB b), .slice B m d]] w (SignedPost (IsSum (sX a + sX b)) w) := by
  obtain ⟨na, ha⟩ : ∃ z, negB a = z := ⟨_, rfl⟩
  obtain ⟨nb, hb⟩ : ∃ z, negB b = z := ⟨_, rfl⟩
  rw [ha, hb]
  have hP := Lib.hid (fun W (h : Below w.heap.size w W) => rplus_any A B n m c d l k W (hs.on h) (ht.on h) (by omega) (by omega))
  have hC := Lib.hid (fun W (h : Below w.heap.size w W) => rcmp_any A B n m c d l k W (hs.on h) (ht.on h) (by omega) (by omega))
  have hL1 := Lib.hid (fun W (h : Below w.heap.size w W) (hle : natV k ≤ natV l) => rless_any A B n m c d l k W (hs.on h) (ht.on h) (by omega) (by omega) hle)
  have hL2 := Lib.hid (fun W (h : Below w.heap.size w W) (hle : natV l ≤ natV k) => rless_any B A m n d c k l W (ht.on h) (hs.on h) (by omega) (by omega) hle)
  have VA := Lib.hid va; have VB := Lib.hid vb
  clear va vb
  by_cases e : (na == nb) = true
  · have e' : na = nb := by simpa using e
    have fin := Lib.hid (sum_same h1 h2 ha (hb.trans e'.symm))
    have e'' := Lib.hid e'
    clear hs ht ha hb hC hL1 hL2 e' h1 h2
    go_enter Tryd.func54, Tryd.ntmps54
    go_wp2_with fail
    obtain ⟨W0, hW0⟩ : ∃ W0, ((w.alloc (.cells #[.bool na, .slice A n c] 61)).alloc (.cells #[.bool nb, .slice B m d] 61)).alloc (.cells #[.bool false, .slice none 0 0] 61) = W0 := ⟨_, rfl⟩
    have S0 : W0.cell? ⟨w.heap.size, 0, none⟩ = some (.bool na) ∧ W0.cell? ⟨w.heap.size, 1, none⟩ = some (.slice A n c) ∧ W0.cell? ⟨w.heap.size + 1, 0, none⟩ = some (.bool nb) ∧ W0.cell? ⟨w.heap.size + 1, 1, none⟩ = some (.slice B m d) ∧ W0.cell? ⟨w.heap.size + 1 + 1, 0, none⟩ = some (.bool false) ∧ W0.cell? ⟨w.heap.size + 1 + 1, 1, none⟩ = some (.slice none 0 0) ∧ W0.frozen? ⟨w.heap.size + 1 + 1, 0, none⟩ = false ∧ W0.frozen? ⟨w.heap.size + 1 + 1, 1, none⟩ = false ∧ w.heap.size + 1 + 1 < W0.heap.size ∧ Below w.heap.size w W0 := by
      rw [← hW0]
      exact ⟨by simp [go_sem], by simp [go_sem], by simp [go_sem], by simp [go_sem], by simp [go_sem], by simp [go_sem], by simp [go_sem], by simp [go_sem], by first | (simp; done) | (simp; omega), ((below_new _ _).alloc (by simp) _).alloc (by first | (simp; done) | (simp; omega)) _⟩
    rw [hW0]
    clear hW0
    have SS := Lib.hid (drewP S0)
    obtain ⟨g1, g2, g3, g4, g5, g6, g7, g8, g9, g10⟩ := S0
    clear g10
    go_region_with ((go_at_call 92; refine (hP.out _ SS.out.2.2.2.2.2.2.2.2.2).mono ?_; rintro e x1 ⟨A3, n3, c3, l3, rfl, hs3, hn3, hv3, fr3, hx1⟩; obtain ⟨k1, k2, k3, k4, k5, k6, k7, k8, k9, k10⟩ := keepP SS.out hx1; have HV : Hid (natV l3 = XI a + XI b) := hv3.trans (by rw [VA.out, VB.out]); have H3 := Lib.hid hs3; have HN := Lib.hid hn3; have HF := Lib.hid (show Fresh (w.heap.size + 1 + 1 + 1) A3 from fr3.mono (by simp; omega)); clear hs3 hn3 hv3 fr3 hx1))
    all_goals
      go_wp2
      refine bodyPost_ret (v := .agg #[.bool na, .slice A3 n3 c3]) (by simp [results, Tryd.results54, go_sem, k5, k6]) rfl ?_
      exact ⟨na, A3, n3, c3, l3, rfl, (((H3.out.far HF.out).far HF.out).more (by simp [World.setCell])), HN.out, by rw [HV.out]; exact fin.out, (k10.setCell (by show w.heap.size ≤ w.heap.size + 1 + 1; omega) _).setCell (by show w.heap.size ≤ w.heap.size + 1 + 1; omega) _⟩
  · have e : (na == nb) = false := by simpa using e
    by_cases hge : XI b ≤ XI a
    · have fin := Lib.hid (sum_ge ha hb e hge)
      have cc : Hid (natV k ≤ natV l) := by unfold Hid; rw [VA.out, VB.out]; exact hge
      have crn : Hid (∃ r, 0 ≤ r ∧ cmpI (natV l) (natV k) = r) := by
        refine ⟨_, ?_, rfl⟩
        have := cc.out
        unfold cmpI; rw [if_neg (by omega)]; split <;> decide
      obtain ⟨r, r0, hr⟩ := crn.out
      have crn := Lib.hid hr
      clear hr hL2 hge
      clear hs ht ha hb hP h1 h2
      go_enter Tryd.func54, Tryd.ntmps54
      go_wp2_with fail
      obtain ⟨W0, hW0⟩ : ∃ W0, ((w.alloc (.cells #[.bool na, .slice A n c] 61)).alloc (.cells #[.bool nb, .slice B m d] 61)).alloc (.cells #[.bool false, .slice none 0 0] 61) = W0 := ⟨_, rfl⟩
      have S0 : W0.cell? ⟨w.heap.size, 0, none⟩ = some (.bool na) ∧ W0.cell? ⟨w.heap.size, 1, none⟩ = some (.slice A n c) ∧ W0.cell? ⟨w.heap.size + 1, 0, none⟩ = some (.bool nb) ∧ W0.cell? ⟨w.heap.size + 1, 1, none⟩ = some (.slice B m d) ∧ W0.cell? ⟨w.heap.size + 1 + 1, 0, none⟩ = some (.bool false) ∧ W0.cell? ⟨w.heap.size + 1 + 1, 1, none⟩ = some (.slice none 0 0) ∧ W0.frozen? ⟨w.heap.size + 1 + 1, 0, none⟩ = false ∧ W0.frozen? ⟨w.heap.size + 1 + 1, 1, none⟩ = false ∧ w.heap.size + 1 + 1 < W0.heap.size ∧ Below w.heap.size w W0 := by
        rw [← hW0]
        exact ⟨by simp [go_sem], by simp [go_sem], by simp [go_sem], by simp [go_sem], by simp [go_sem], by simp [go_sem], by simp [go_sem], by simp [go_sem], by first | (simp; done) | (simp; omega), ((below_new _ _).alloc (by simp) _).alloc (by first | (simp; done) | (simp; omega)) _⟩
      rw [hW0]
      clear hW0
      go_wp2_with fail
      refine (hC.out _ S0.2.2.2.2.2.2.2.2.2).mono ?_
      rintro e w1 ⟨rfl, hb1⟩
      have S1 := keepP S0 hb1
      clear S0 hb1 hC
      rw [crn.out]
      have SS := Lib.hid (drewP S1)
      obtain ⟨g1, g2, g3, g4, g5, g6, g7, g8, g9, g10⟩ := S1
      clear g10
      go_wp2
      go_region_with ((go_at_call 79; refine (hL1.out _ SS.out.2.2.2.2.2.2.2.2.2 cc.out).mono ?_; rintro e x1 ⟨A3, n3, c3, l3, rfl, hs3, hn3, hv3, fr3, hx1⟩; obtain ⟨k1, k2, k3, k4, k5, k6, k7, k8, k9, k10⟩ := keepP SS.out hx1; have HV : Hid (natV l3 = XI a - XI b) := hv3.trans (by rw [VA.out, VB.out]); have H3 := Lib.hid hs3; have HN := Lib.hid hn3; have HF := Lib.hid (show Fresh (w.heap.size + 1 + 1 + 1) A3 from fr3.mono (by simp; omega)); clear hs3 hn3 hv3 fr3 hx1))
      all_goals
        go_wp2
        refine bodyPost_ret (v := .agg #[.bool na, .slice A3 n3 c3]) (by simp [results, Tryd.results54, go_sem, k5, k6]) rfl ?_
        exact ⟨na, A3, n3, c3, l3, rfl, (((H3.out.far HF.out).far HF.out).more (by simp [World.setCell])), HN.out, by rw [HV.out]; exact fin.out, (k10.setCell (by show w.heap.size ≤ w.heap.size + 1 + 1; omega) _).setCell (by show w.heap.size ≤ w.heap.size + 1 + 1; omega) _⟩
    · have fin := Lib.hid (sum_lt ha hb e (by omega))
      have cc : Hid (natV l ≤ natV k) := by unfold Hid; rw [VA.out, VB.out]; omega
      have crn : Hid (∃ r, r < 0 ∧ cmpI (natV l) (natV k) = r) := by
        refine ⟨_, ?_, rfl⟩
        unfold cmpI; rw [VA.out, VB.out, if_pos (by omega)]; decide
      obtain ⟨r, r0, hr⟩ := crn.out
      have crn := Lib.hid hr
      clear hr hL1 hge
      clear hs ht ha hb hP h1 h2
      go_enter Tryd.func54, Tryd.ntmps54
      go_wp2_with fail
      obtain ⟨W0, hW0⟩ : ∃ W0, ((w.alloc (.cells #[.bool na, .slice A n c] 61)).alloc (.cells #[.bool nb, .slice B m d] 61)).alloc (.cells #[.bool false, .slice none 0 0] 61) = W0 := ⟨_, rfl⟩
      have S0 : W0.cell? ⟨w.heap.size, 0, none⟩ = some (.bool na) ∧ W0.cell? ⟨w.heap.size, 1, none⟩ = some (.slice A n c) ∧ W0.cell? ⟨w.heap.size + 1, 0, none⟩ = some (.bool nb) ∧ W0.cell? ⟨w.heap.size + 1, 1, none⟩ = some (.slice B m d) ∧ W0.cell? ⟨w.heap.size + 1 + 1, 0, none⟩ = some (.bool false) ∧ W0.cell? ⟨w.heap.size + 1 + 1, 1, none⟩ = some (.slice none 0 0) ∧ W0.frozen? ⟨w.heap.size + 1 + 1, 0, none⟩ = false ∧ W0.frozen? ⟨w.heap.size + 1 + 1, 1, none⟩ = false ∧ w.heap.size + 1 + 1 < W0.heap.size ∧ Below w.heap.size w W0 := by
        rw [← hW0]
        exact ⟨by simp [go_sem], by simp [go_sem], by simp [go_sem], by simp [go_sem], by simp [go_sem], by simp [go_sem], by simp [go_sem], by simp [go_sem], by first | (simp; done) | (simp; omega), ((below_new _ _).alloc (by simp) _).alloc (by first | (simp; done) | (simp; omega)) _⟩
      rw [hW0]
      clear hW0
      go_wp2_with fail
      refine (hC.out _ S0.2.2.2.2.2.2.2.2.2).mono ?_
      rintro e w1 ⟨rfl, hb1⟩
      have S1 := keepP S0 hb1
      clear S0 hb1 hC
      rw [crn.out]
      have SS := Lib.hid (drewP S1)
      obtain ⟨g1, g2, g3, g4, g5, g6, g7, g8, g9, g10⟩ := S1
      clear g10
      go_wp2
      go_region_with ((go_at_call 79; refine (hL2.out _ SS.out.2.2.2.2.2.2.2.2.2 cc.out).mono ?_; rintro e x1 ⟨A3, n3, c3, l3, rfl, hs3, hn3, hv3, fr3, hx1⟩; obtain ⟨k1, k2, k3, k4, k5, k6, k7, k8, k9, k10⟩ := keepP SS.out hx1; have HV : Hid (natV l3 = XI b - XI a) := hv3.trans (by rw [VA.out, VB.out]); have H3 := Lib.hid hs3; have HN := Lib.hid hn3; have HF := Lib.hid (show Fresh (w.heap.size + 1 + 1 + 1) A3 from fr3.mono (by simp; omega)); clear hs3 hn3 hv3 fr3 hx1))
      all_goals
        go_wp2
        refine bodyPost_ret (v := .agg #[.bool nb, .slice A3 n3 c3]) (by simp [results, Tryd.results54, go_sem, k5, k6]) rfl ?_
        exact ⟨nb, A3, n3, c3, l3, rfl, (((H3.out.far HF.out).far HF.out).more (by simp [World.setCell])), HN.out, by rw [HV.out]; exact fin.out, (k10.setCell (by show w.heap.size ≤ w.heap.size + 1 + 1; omega) _).setCell (by show w.heap.size ≤ w.heap.size + 1 + 1; omega) _⟩
end Go.Proofs.YtnefacnceemklaaDoor

/-
  The document's answers to layer 4: Add, Sub, Mul.
-/
namespace Go.Proofs.YtnefacnceemklaaDoor
open Go.RowKit Go.Shelf

theorem XI_lt2 (x : Int) (h : Word x) : XI x < pw 2098 := by
  obtain ⟨m0, m1, p0, p1⟩ := mant_bd x h
  have a := pw_mono (a := powI x + 1074) (b := 2045) (by omega) (by omega)
  have e : pw 2098 = pw 53 * pw 2045 := by rw [← pw_add 53 2045 (by decide) (by decide)]; rfl
  have hp := pw_pos (powI x + 1074)
  unfold XI
  rw [e, show pw 53 = 9007199254740992 from rfl]
  have b : mantI x * pw (powI x + 1074) ≤ mantI x * pw 2045 := Int.mul_le_mul_of_nonneg_left a m0
  have c : (mantI x + 1) * pw 2045 ≤ 9007199254740992 * pw 2045 := Int.mul_le_mul_of_nonneg_right (by omega) (Int.le_of_lt (pw_pos _))
  have d := pw_pos 2045
  rw [Int.add_mul] at c
  omega
theorem XI_len {w : World} {B : Nat} {A : Option Addr} {n c : Nat} {l : List Int} {x : Int} (h : Sl w B A n c l) (hn : Norm l) (hx : Word x) (hv : natV l = XI x) : n ≤ 66 := by
  rw [← h.len]
  refine norm_len h.lim hn ?_
  have a := XI_lt2 x hx
  have b := pw_mono (a := 2098) (b := 32 * ((66 : Nat) : Int)) (by decide) (by decide)
  rw [hv]; omega
theorem sum_len {w : World} {B : Nat} {A : Option Addr} {n c : Nat} {l : List Int} {a b : Int} {s : Bool} (h : Sl w B A n c l) (hn : Norm l) (h1 : Word a) (h2 : Word b) (hv : IsSum (sX a + sX b) s (natV l)) : n ≤ 66 := by
  rw [← h.len]
  refine norm_len h.lim hn ?_
  have p := XI_lt2 a h1
  have q := XI_lt2 b h2
  have p0 := XI_nonneg a h1
  have q0 := XI_nonneg b h2
  have e := hv.e
  have d := pw_succ 2098 (by decide)
  have f := pw_mono (a := 2098 + 1) (b := 32 * ((66 : Nat) : Int)) (by decide) (by decide)
  have bd : natV l ≤ XI a + XI b := by
    unfold sX at e
    cases s <;> simp at e <;> (split at e <;> split at e <;> omega)
  omega

theorem negV_word (b : Int) (h : Word b) : Word (negI b) := neg_word b h
end Go.Proofs.YtnefacnceemklaaDoor

/-
  The document's Mul; the statement ArithMuls, walked.
-/
namespace Go.Proofs.YtnefacnceemklaaDoor
open Go.RowKit Go.Shelf

/-- Mul's answer at finite numbers. -/
theorem mul_finite {a b : Int} (h1 : Word a) (h2 : Word b) (ka : kindI a < 3) (kb : kindI b < 3) : mulV a b = rndI (negB a != negB b) (mantI a * mantI b) (powI a + powI b) := by
  unfold mulV mulK
  rw [if_neg (by omega), if_neg (by omega)]
  by_cases z : kindI a = 0 ∨ kindI b = 0
  · rw [if_pos z]
    have e : mantI a * mantI b = 0 := by
      rcases z with z | z
      · rw [(mant_zero a h1 (fin_of_kind h1 ka)).2 (kind_zero.1 z), Int.zero_mul]
      · rw [(mant_zero b h2 (fin_of_kind h2 kb)).2 (kind_zero.1 z), Int.mul_zero]
    rw [e, rnd_zero]
  · rw [if_neg z]

set_option maxRecDepth 100000 in
set_option maxHeartbeats 8000000 in
theorem rmul_any (a b : Int) (h1 : Word a) (h2 : Word b) (w : World) : Calls Tryd.prog 59 #[.int .u64 a, .int .u64 b] w (WordPost (mulV a b) w) := by
  obtain ⟨k, hk⟩ : ∃ z, kindI a = z := ⟨_, rfl⟩
  obtain ⟨j, hj⟩ : ∃ z, kindI b = z := ⟨_, rfl⟩
  have bk := kind_bd a
  have bj := kind_bd b
  rw [hk] at bk; rw [hj] at bj
  have KA := Lib.hid (fun W => rkind_vars a k h1 hk W)
  have KB := Lib.hid (fun W => rkind_vars b j h2 hj W)
  have HK := Lib.hid hk; have HJ := Lib.hid hj
  have H1 := Lib.hid h1; have H2 := Lib.hid h2
  obtain ⟨r, hr⟩ : ∃ z, mulV a b = z := ⟨_, rfl⟩
  have AV : Hid (mulK k j a b = r) := by rw [← hr]; unfold Hid mulV; rw [hk, hj]
  have HR := Lib.hid hr
  have IA := Lib.hid (fun W => ris_any a W)
  have IB := Lib.hid (fun W => ris_any b W)
  have SA := Lib.hid (fun W => rsplit_any a h1 W)
  have SB := Lib.hid (fun W => rsplit_any b h2 W)
  have BA := Lib.hid (mant_bd a h1)
  have BB := Lib.hid (mant_bd b h2)
  obtain ⟨na, hna⟩ : ∃ z, negB a = z := ⟨_, rfl⟩
  obtain ⟨nb, hnb⟩ : ∃ z, negB b = z := ⟨_, rfl⟩
  have HNA := Lib.hid hna; have HNB := Lib.hid hnb
  obtain ⟨ng, hng⟩ : ∃ z, (na != nb) = z := ⟨_, rfl⟩
  have HNG := Lib.hid hng
  rw [hr]
  rw [hna] at IA SA
  rw [hnb] at IB SB
  have HN2 : Hid ((!(na == nb)) = ng) := by unfold Hid; rw [← hng]; rfl
  clear hk hj h1 h2 hr hna hnb hng
  have NG : Hid ((negB a != negB b) = ng) := by unfold Hid; rw [HNA.out, HNB.out, HNG.out]
  by_cases cn : k = 4 ∨ j = 4 ∨ (k = 3 ∧ j = 0) ∨ (k = 0 ∧ j = 3)
  · have fin : Hid (r = 9221120237041090560) := by unfold Hid; rw [← AV.out]; unfold mulK; rw [if_pos cn]
    clear AV HR SA SB BA BB HK HJ
    rcases cn with c | c | c | c
    · have t1 : (k == 4) = true := by simpa using c
      have c := Lib.hid c
      go_enter Tryd.func59, Tryd.ntmps59
      go_wp2_with (first | (go_at_call_of 25 (Value.int IntKind.u64 a); refine (KA.out _).mono ?_; rintro e w' ⟨rfl, rfl⟩) | (go_at_call_of 25 (Value.int IntKind.u64 b); refine (KB.out _).mono ?_; rintro e w' ⟨rfl, rfl⟩) | (go_at_call_of 38 (Value.int IntKind.u64 a); refine (IA.out _).mono ?_; rintro e w' ⟨rfl, rfl⟩) | (go_at_call_of 38 (Value.int IntKind.u64 b); refine (IB.out _).mono ?_; rintro e w' ⟨rfl, rfl⟩))
      go_ret
      exact ⟨by rw [fin.out]; rfl, Below.refl _ _⟩
    · by_cases k4 : k = 4
      · have t1 : (k == 4) = true := by simpa using k4
        have c := Lib.hid c; have k4 := Lib.hid k4
        go_enter Tryd.func59, Tryd.ntmps59
        go_wp2_with (first | (go_at_call_of 25 (Value.int IntKind.u64 a); refine (KA.out _).mono ?_; rintro e w' ⟨rfl, rfl⟩) | (go_at_call_of 25 (Value.int IntKind.u64 b); refine (KB.out _).mono ?_; rintro e w' ⟨rfl, rfl⟩) | (go_at_call_of 38 (Value.int IntKind.u64 a); refine (IA.out _).mono ?_; rintro e w' ⟨rfl, rfl⟩) | (go_at_call_of 38 (Value.int IntKind.u64 b); refine (IB.out _).mono ?_; rintro e w' ⟨rfl, rfl⟩))
        go_ret
        exact ⟨by rw [fin.out]; rfl, Below.refl _ _⟩
      · have t1 : (k == 4) = false := by simpa using k4
        have t2 : (j == 4) = true := by simpa using c
        have c := Lib.hid c; have k4 := Lib.hid k4
        go_enter Tryd.func59, Tryd.ntmps59
        go_wp2_with (first | (go_at_call_of 25 (Value.int IntKind.u64 a); refine (KA.out _).mono ?_; rintro e w' ⟨rfl, rfl⟩) | (go_at_call_of 25 (Value.int IntKind.u64 b); refine (KB.out _).mono ?_; rintro e w' ⟨rfl, rfl⟩) | (go_at_call_of 38 (Value.int IntKind.u64 a); refine (IA.out _).mono ?_; rintro e w' ⟨rfl, rfl⟩) | (go_at_call_of 38 (Value.int IntKind.u64 b); refine (IB.out _).mono ?_; rintro e w' ⟨rfl, rfl⟩))
        go_ret
        exact ⟨by rw [fin.out]; rfl, Below.refl _ _⟩
    · obtain ⟨rfl, rfl⟩ := c
      go_enter Tryd.func59, Tryd.ntmps59
      go_wp2_with (first | (go_at_call_of 25 (Value.int IntKind.u64 a); refine (KA.out _).mono ?_; rintro e w' ⟨rfl, rfl⟩) | (go_at_call_of 25 (Value.int IntKind.u64 b); refine (KB.out _).mono ?_; rintro e w' ⟨rfl, rfl⟩) | (go_at_call_of 38 (Value.int IntKind.u64 a); refine (IA.out _).mono ?_; rintro e w' ⟨rfl, rfl⟩) | (go_at_call_of 38 (Value.int IntKind.u64 b); refine (IB.out _).mono ?_; rintro e w' ⟨rfl, rfl⟩))
      go_ret
      exact ⟨by rw [fin.out]; rfl, Below.refl _ _⟩
    · obtain ⟨rfl, rfl⟩ := c
      go_enter Tryd.func59, Tryd.ntmps59
      go_wp2_with (first | (go_at_call_of 25 (Value.int IntKind.u64 a); refine (KA.out _).mono ?_; rintro e w' ⟨rfl, rfl⟩) | (go_at_call_of 25 (Value.int IntKind.u64 b); refine (KB.out _).mono ?_; rintro e w' ⟨rfl, rfl⟩) | (go_at_call_of 38 (Value.int IntKind.u64 a); refine (IA.out _).mono ?_; rintro e w' ⟨rfl, rfl⟩) | (go_at_call_of 38 (Value.int IntKind.u64 b); refine (IB.out _).mono ?_; rintro e w' ⟨rfl, rfl⟩))
      go_ret
      exact ⟨by rw [fin.out]; rfl, Below.refl _ _⟩
  have t1 : (k == 4) = false := by simp; omega
  have t2 : (j == 4) = false := by simp; omega
  by_cases ci : k = 3 ∨ j = 3
  · have fin : Hid (r = signI ng + 9218868437227405312) := by unfold Hid; rw [← AV.out]; unfold mulK; rw [if_neg cn, if_pos ci, NG.out]
    have sb : 0 ≤ signI ng ∧ signI ng ≤ 9223372036854775808 := by unfold signI; split <;> decide
    obtain ⟨sb0, sb1⟩ := sb
    have ZC := Lib.hid (fun W => zero_any ng W)
    generalize signI ng = sg at *
    clear AV HR SA SB BA BB HK HJ
    by_cases k3 : k = 3
    · have t3 : (k == 3) = true := by simpa using k3
      have t4 : (j == 0) = false := by simp; omega
      have t5 : (k == 0) = false := by simp; omega
      have k3 := Lib.hid k3; have ci := Lib.hid ci; have cn := Lib.hid cn
      go_enter Tryd.func59, Tryd.ntmps59
      go_wp2_with (first | (go_at_call_of 25 (Value.int IntKind.u64 a); refine (KA.out _).mono ?_; rintro e w' ⟨rfl, rfl⟩) | (go_at_call_of 25 (Value.int IntKind.u64 b); refine (KB.out _).mono ?_; rintro e w' ⟨rfl, rfl⟩) | (go_at_call_of 38 (Value.int IntKind.u64 a); refine (IA.out _).mono ?_; rintro e w' ⟨rfl, rfl⟩) | (go_at_call_of 38 (Value.int IntKind.u64 b); refine (IB.out _).mono ?_; rintro e w' ⟨rfl, rfl⟩) | (go_at_call 93; rw [HN2.out]; refine (ZC.out _).mono ?_; rintro e w' ⟨rfl, rfl⟩))
      go_ret
      exact ⟨by rw [fin.out]; rfl, Below.refl _ _⟩
    · have t3 : (k == 3) = false := by simpa using k3
      have t4 : (j == 3) = true := by simp; omega
      have t5 : (k == 0) = false := by simp; omega
      have k3 := Lib.hid k3; have ci := Lib.hid ci; have cn := Lib.hid cn
      go_enter Tryd.func59, Tryd.ntmps59
      go_wp2_with (first | (go_at_call_of 25 (Value.int IntKind.u64 a); refine (KA.out _).mono ?_; rintro e w' ⟨rfl, rfl⟩) | (go_at_call_of 25 (Value.int IntKind.u64 b); refine (KB.out _).mono ?_; rintro e w' ⟨rfl, rfl⟩) | (go_at_call_of 38 (Value.int IntKind.u64 a); refine (IA.out _).mono ?_; rintro e w' ⟨rfl, rfl⟩) | (go_at_call_of 38 (Value.int IntKind.u64 b); refine (IB.out _).mono ?_; rintro e w' ⟨rfl, rfl⟩) | (go_at_call 93; rw [HN2.out]; refine (ZC.out _).mono ?_; rintro e w' ⟨rfl, rfl⟩))
      go_ret
      exact ⟨by rw [fin.out]; rfl, Below.refl _ _⟩
  have t3 : (k == 3) = false := by simp; omega
  have t4 : (j == 3) = false := by simp; omega
  have fin : Hid (r = rndI ng (mantI a * mantI b) (powI a + powI b)) := by unfold Hid; rw [← HR.out, mul_finite H1.out H2.out (by rw [HK.out]; omega) (by rw [HJ.out]; omega), NG.out]
  have cn := Lib.hid cn; have ci := Lib.hid ci
  obtain ⟨ma0, ma1, pa0, pa1⟩ := BA.out
  obtain ⟨mb0, mb1, pb0, pb1⟩ := BB.out
  generalize mantI a = ma at *
  generalize mantI b = mb at *
  generalize powI a = pa at *
  generalize powI b = pb at *
  have NA := Lib.hid (fun W => nat3_any ma ⟨ma0, by omega⟩ W)
  have NB := Lib.hid (fun W => nat3_any mb ⟨mb0, by omega⟩ W)
  clear AV HR HK HJ BA BB
  obtain ⟨z0, t5⟩ : ∃ z, (k == 0) = z := ⟨_, rfl⟩
  cases z0
  all_goals
    go_enter Tryd.func59, Tryd.ntmps59
    go_wp2_with fail
    refine (KA.out _).mono ?_
    rintro e w' ⟨rfl, rfl⟩
    go_wp2_with fail
    refine (KB.out _).mono ?_
    rintro e w' ⟨rfl, rfl⟩
    go_wp2_with fail
    refine (IA.out _).mono ?_
    rintro e w' ⟨rfl, rfl⟩
    go_wp2_with fail
    refine (IB.out _).mono ?_
    rintro e w' ⟨rfl, rfl⟩
    go_wp2_with fail
    rw [HN2.out]
    refine (SA.out _).mono ?_
    rintro e w' ⟨rfl, rfl⟩
    go_wp2_with fail
    refine (SB.out _).mono ?_
    rintro e w' ⟨rfl, rfl⟩
    go_wp2_with fail
    refine (NA.out _).mono ?_
    rintro e w1 ⟨A1, n1, c1, l1, rfl, hs1, hn1, hv1, _, hb1⟩
    have n1b : n1 ≤ 8 := hs1.small hn1 (by rw [hv1]; omega)
    have hv1 := Lib.hid hv1
    clear hn1
    go_wp2_with fail
    refine (NB.out _).mono ?_
    rintro e w2 ⟨A2, n2, c2, l2, rfl, hs2, hn2, hv2, _, hb2⟩
    have n2b : n2 ≤ 8 := hs2.small hn2 (by rw [hv2]; omega)
    have hv2 := Lib.hid hv2
    have hs1 := hs1.on hb2
    have hB2 := hb1.trans (hb2.mono hb1.size)
    clear hn2 hb1 hb2
    go_wp2_with fail
    refine (rtimes_any A1 A2 n1 n2 c1 c2 l1 l2 _ hs1 hs2 (by omega) (by omega)).mono ?_
    rintro e w3 ⟨A3, n3, c3, l3, rfl, hs3, hn3, hv3, _, hb3⟩
    have hv3 : Hid (natV l3 = ma * mb) := by unfold Hid; rw [hv3, hv1.out, hv2.out]
    have n3b : n3 ≤ 8 := hs3.small hn3 (by
      rw [hv3.out]
      have := Int.mul_le_mul (show ma ≤ 9007199254740992 by omega) (show mb ≤ 9007199254740992 by omega) mb0 (by decide)
      omega)
    have hB3 := hB2.trans (hb3.mono hB2.size)
    have CR := Lib.hid (rround_len ng A3 n3 c3 l3 (pa + pb) w3 hs3 (by omega) (by omega) (by omega) hv3.out fin.out.symm)
    clear hs1 hs2 hs3 hn3 hb3 hB2
    go_wp2_with fail
    refine CR.out.mono ?_
    rintro e w4 ⟨rfl, hb4⟩
    have hB4 := hB3.trans (hb4.mono hB3.size)
    go_wp2
    go_ret
    exact ⟨rfl, hB4⟩

end Go.Proofs.YtnefacnceemklaaDoor

