import Derived.Test.YtmjidpkddiinaaaDoorX4
/-
  The document's naturals: Big, Of, Value, fits, Add, Sub, Mul, DivMod of any lists: walked.
-/
namespace Go.Proofs.YtmjidpkddiinaaaDoor
open Go.RowKit Go.Shelf

set_option maxHeartbeats 1000000 in
theorem rbig_any (A : Option Addr) (n c : Nat) (l : List Int) (w : World) (h : Sl w w.heap.size A n c l) (hn : n ≤ 1000000) :
    Calls Tryd.prog 47 #[.slice A n c] w fun e w' => e = .returned (.bool (decide (pw 8192 ≤ natV l))) ∧ Below w.heap.size w w' := by
  have HT := Lib.hid (rtrim_any A n c l w h (by omega))
  obtain ⟨R, hR⟩ : ∃ R, decide (pw 8192 ≤ natV l) = R := ⟨_, rfl⟩
  rw [hR]
  have HR := Lib.hid hR
  have nb := Lib.hid (show ∀ m : List Int, (∀ x ∈ m, Limb x) → Norm m → natV m = natV l → m.length ≤ n from fun m h1 h2 h3 => norm_len h1 h2 (by rw [h3, ← h.len]; exact natV_lt h.lim))
  clear h hR
  go_enter Tryd.func47, Tryd.ntmps47
  go_wp2_with fail
  refine HT.out.mono ?_
  rintro e w1 ⟨A1, n1, c1, l1, rfl, hs, hn1, hv, fr, hb⟩
  have nb1 := nb.out l1 hs.lim hn1 hv
  rw [hs.len] at nb1
  have t := len_256 hs.lim hn1
  rw [hs.len, hv] at t
  have n1c : (n1 : Int) ≤ 1000000 := by omega
  have eR : Hid (decide (256 < (n1 : Int)) = R) := by
    unfold Hid; rw [← HR.out, decide_eq_decide]
    generalize pw 8192 = P at *
    omega
  clear hs hn1 hv fr HT t nb
  go_wp2
  go_ret
  exact ⟨by rw [← eR.out]; rfl, hb⟩
/-- Two right lists, and an error. -/
def NatQ2Post (er q r : Int) (w : World) (e : Ending) (w' : World) : Prop :=
  ∃ (A : Option Addr) (n c : Nat) (l : List Int) (B : Option Addr) (m d : Nat) (k : List Int), e = .returned (.tuple #[.slice A n c, .slice B m d, .int .i64 er]) ∧ (Sl w' w'.heap.size A n c l ∧ Norm l ∧ natV l = q) ∧ (Sl w' w'.heap.size B m d k ∧ Norm k ∧ natV k = r) ∧ Below w.heap.size w w'
theorem NatR2Post.q {er q r : Int} {w : World} {e : Ending} {w' : World} (h : NatR2Post er q r w e w') : NatQ2Post er q r w e w' := by
  obtain ⟨A, n, c, l, B, m, d, k, h1, h2, h3, h4⟩ := h
  exact ⟨A, n, c, l, B, m, d, k, h1, ⟨h2.1, h2.2.1, h2.2.2.1⟩, ⟨h3.1, h3.2.1, h3.2.2.1⟩, h4⟩
theorem rbig_lt (A : Option Addr) (n c : Nat) (l : List Int) (w : World) (h : Sl w w.heap.size A n c l) (hn : n ≤ 1000000) (hl : natV l < pw 8192) :
    Calls Tryd.prog 47 #[.slice A n c] w fun e w' => e = .returned (.bool false) ∧ Below w.heap.size w w' := by
  have := rbig_any A n c l w h hn
  rw [show decide (pw 8192 ≤ natV l) = false by simp; omega] at this
  exact this
theorem rbig_ge (A : Option Addr) (n c : Nat) (l : List Int) (w : World) (h : Sl w w.heap.size A n c l) (hn : n ≤ 1000000) (hl : pw 8192 ≤ natV l) :
    Calls Tryd.prog 47 #[.slice A n c] w fun e w' => e = .returned (.bool true) ∧ Below w.heap.size w w' := by
  have := rbig_any A n c l w h hn
  rw [show decide (pw 8192 ≤ natV l) = true by simp; omega] at this
  exact this
set_option maxHeartbeats 1000000 in
theorem rof_any (v : Int) (h : Word v) (w : World) : Calls Tryd.prog 16 #[.int .u64 v] w (NatPost v w) := by
  have e := of_two v h
  obtain ⟨h0, h1⟩ := h
  have HT : Hid (∀ W : World, W = w.alloc (.cells #[.int .u32 (v % 4294967296), .int .u32 (v / 4294967296)] 66) → Calls Tryd.prog 14 #[.slice (some ⟨w.heap.size, 0, none⟩) 2 2] W (NatPost v w)) := by
    rintro W rfl
    exact trim_own (lit_own w _ 2 rfl (by omega)) e.1 (by omega) (below_new _ _) e.2
  clear e
  go_enter Tryd.func16, Tryd.ntmps16
  go_wp2_with fail
  refine (HT.out _ rfl).mono ?_
  intro e w2 hp
  obtain ⟨A2, n2, c2, l2, rfl, hs2, hn2, hv2, fr2, hb2⟩ := hp
  have hp := Lib.hid (NatPost.mk hs2 hn2 hv2 fr2 hb2)
  clear hs2 hn2 hv2 hb2 fr2
  go_wp2
  go_ret
  exact hp.out
set_option maxHeartbeats 1000000 in
theorem rfits_any (A : Option Addr) (n c : Nat) (l : List Int) (w : World) (h : Sl w w.heap.size A n c l) (hn : n ≤ 1000000) :
    Calls Tryd.prog 48 #[.slice A n c] w fun e w' => Below w.heap.size w w' ∧ (natV l < pw 8192 → e = .returned (.tuple #[.slice A n c, .int .i64 0])) ∧ (pw 8192 ≤ natV l → e = .returned (.tuple #[.slice none 0 0, .int .i64 2])) := by
  by_cases g : natV l < pw 8192
  · have B := Lib.hid (rbig_lt A n c l w h hn g)
    have g := Lib.hid g
    clear h
    go_enter Tryd.func48, Tryd.ntmps48
    go_wp2_with fail
    refine B.out.mono ?_
    rintro e w1 ⟨rfl, hb⟩
    go_wp2
    go_ret2
    exact ⟨hb, fun _ => rfl, fun z => by have := g.out; omega⟩
  · have B := Lib.hid (rbig_ge A n c l w h hn (by omega))
    have g := Lib.hid g
    clear h
    go_enter Tryd.func48, Tryd.ntmps48
    go_wp2_with fail
    refine B.out.mono ?_
    rintro e w1 ⟨rfl, hb⟩
    go_wp2
    go_ret2
    exact ⟨hb, fun z => by have := g.out; omega, fun _ => rfl⟩
/-- What fits answers of a list of the call's own. -/
theorem rfits_own {A : Option Addr} {n c : Nat} {l : List Int} {v : Int} {w w1 : World} (h : Sl w1 w1.heap.size A n c l) (hl : Norm l) (hv : natV l = v) (fr : Fresh w.heap.size A) (hb : Below w.heap.size w w1) (hn : n ≤ 1000000) :
    Calls Tryd.prog 48 #[.slice A n c] w1 (NatRPost (overE v) (overV v) w) := by
  refine (rfits_any A n c l w1 h hn).mono ?_
  rintro e w2 ⟨h1, h2, h3⟩
  rw [hv] at h2 h3
  have hB := hb.trans (h1.mono hb.size)
  rcases Int.lt_or_le v (pw 8192) with g | g
  · rw [h2 g, (over_ok g).1, (over_ok g).2]
    exact NatRPost.mk (h.on h1) hl hv fr hB
  · rw [h3 g, (over_no g).1, (over_no g).2]
    exact NatRPost.nil hB
set_option maxHeartbeats 2000000 in
theorem radd_over1 (A B : Option Addr) (n m c d : Nat) (a b : List Int) (w : World) (h : Sl w w.heap.size A n c a) (h' : Sl w w.heap.size B m d b) (hn : n ≤ 3000) (_hm : m ≤ 3000) (ha : pw 8192 ≤ natV a) :
    Calls Tryd.prog 24 #[.slice A n c, .slice B m d] w (NatRPost 2 0 w) := by
  have BA := Lib.hid (rbig_ge A n c a w h (by omega) ha)
  have HB := Lib.hid h'
  clear h h'
  go_enter Tryd.func24, Tryd.ntmps24
  go_wp2_with fail
  refine BA.out.mono ?_
  rintro e w1 ⟨rfl, hb1⟩
  have fin := Lib.hid (NatRPost.nil (er := 2) hb1)
  clear hb1
  go_wp2
  go_ret2
  exact fin.out
set_option maxHeartbeats 2000000 in
theorem radd_over2 (A B : Option Addr) (n m c d : Nat) (a b : List Int) (w : World) (h : Sl w w.heap.size A n c a) (h' : Sl w w.heap.size B m d b) (hn : n ≤ 3000) (hm : m ≤ 3000) (ha : natV a < pw 8192) (hb : pw 8192 ≤ natV b) :
    Calls Tryd.prog 24 #[.slice A n c, .slice B m d] w (NatRPost 2 0 w) := by
  have BA := Lib.hid (rbig_lt A n c a w h (by omega) ha)
  have HB := Lib.hid h'
  clear h h'
  go_enter Tryd.func24, Tryd.ntmps24
  go_wp2_with fail
  refine BA.out.mono ?_
  rintro e w1 ⟨rfl, hb1⟩
  have BB := Lib.hid (rbig_ge B m d b w1 (HB.out.on hb1) (by omega) hb)
  go_wp2_with fail
  refine BB.out.mono ?_
  rintro e w2 ⟨rfl, hb2⟩
  have fin := Lib.hid (NatRPost.nil (er := 2) (hb1.trans (hb2.mono hb1.size)))
  clear hb1 hb2
  go_wp2
  go_ret2
  exact fin.out
theorem radd_over (A B : Option Addr) (n m c d : Nat) (a b : List Int) (w : World) (h : Sl w w.heap.size A n c a) (h' : Sl w w.heap.size B m d b) (hn : n ≤ 3000) (hm : m ≤ 3000) (hov : ¬ (natV a < pw 8192 ∧ natV b < pw 8192)) :
    Calls Tryd.prog 24 #[.slice A n c, .slice B m d] w (NatRPost 2 0 w) := by
  by_cases ha : natV a < pw 8192
  · exact radd_over2 A B n m c d a b w h h' hn hm ha (by omega)
  · exact radd_over1 A B n m c d a b w h h' hn hm (by omega)
set_option maxHeartbeats 2000000 in
theorem rsub_over1 (A B : Option Addr) (n m c d : Nat) (a b : List Int) (w : World) (h : Sl w w.heap.size A n c a) (h' : Sl w w.heap.size B m d b) (hn : n ≤ 3000) (_hm : m ≤ 3000) (ha : pw 8192 ≤ natV a) :
    Calls Tryd.prog 26 #[.slice A n c, .slice B m d] w (NatRPost 2 0 w) := by
  have BA := Lib.hid (rbig_ge A n c a w h (by omega) ha)
  have HB := Lib.hid h'
  clear h h'
  go_enter Tryd.func26, Tryd.ntmps26
  go_wp2_with fail
  refine BA.out.mono ?_
  rintro e w1 ⟨rfl, hb1⟩
  have fin := Lib.hid (NatRPost.nil (er := 2) hb1)
  clear hb1
  go_wp2
  go_ret2
  exact fin.out
set_option maxHeartbeats 2000000 in
theorem rsub_over2 (A B : Option Addr) (n m c d : Nat) (a b : List Int) (w : World) (h : Sl w w.heap.size A n c a) (h' : Sl w w.heap.size B m d b) (hn : n ≤ 3000) (hm : m ≤ 3000) (ha : natV a < pw 8192) (hb : pw 8192 ≤ natV b) :
    Calls Tryd.prog 26 #[.slice A n c, .slice B m d] w (NatRPost 2 0 w) := by
  have BA := Lib.hid (rbig_lt A n c a w h (by omega) ha)
  have HB := Lib.hid h'
  clear h h'
  go_enter Tryd.func26, Tryd.ntmps26
  go_wp2_with fail
  refine BA.out.mono ?_
  rintro e w1 ⟨rfl, hb1⟩
  have BB := Lib.hid (rbig_ge B m d b w1 (HB.out.on hb1) (by omega) hb)
  go_wp2_with fail
  refine BB.out.mono ?_
  rintro e w2 ⟨rfl, hb2⟩
  have fin := Lib.hid (NatRPost.nil (er := 2) (hb1.trans (hb2.mono hb1.size)))
  clear hb1 hb2
  go_wp2
  go_ret2
  exact fin.out
theorem rsub_over (A B : Option Addr) (n m c d : Nat) (a b : List Int) (w : World) (h : Sl w w.heap.size A n c a) (h' : Sl w w.heap.size B m d b) (hn : n ≤ 3000) (hm : m ≤ 3000) (hov : ¬ (natV a < pw 8192 ∧ natV b < pw 8192)) :
    Calls Tryd.prog 26 #[.slice A n c, .slice B m d] w (NatRPost 2 0 w) := by
  by_cases ha : natV a < pw 8192
  · exact rsub_over2 A B n m c d a b w h h' hn hm ha (by omega)
  · exact rsub_over1 A B n m c d a b w h h' hn hm (by omega)
set_option maxHeartbeats 2000000 in
theorem rmul_over1 (A B : Option Addr) (n m c d : Nat) (a b : List Int) (w : World) (h : Sl w w.heap.size A n c a) (h' : Sl w w.heap.size B m d b) (hn : n ≤ 3000) (_hm : m ≤ 3000) (ha : pw 8192 ≤ natV a) :
    Calls Tryd.prog 28 #[.slice A n c, .slice B m d] w (NatRPost 2 0 w) := by
  have BA := Lib.hid (rbig_ge A n c a w h (by omega) ha)
  have HB := Lib.hid h'
  clear h h'
  go_enter Tryd.func28, Tryd.ntmps28
  go_wp2_with fail
  refine BA.out.mono ?_
  rintro e w1 ⟨rfl, hb1⟩
  have fin := Lib.hid (NatRPost.nil (er := 2) hb1)
  clear hb1
  go_wp2
  go_ret2
  exact fin.out
set_option maxHeartbeats 2000000 in
theorem rmul_over2 (A B : Option Addr) (n m c d : Nat) (a b : List Int) (w : World) (h : Sl w w.heap.size A n c a) (h' : Sl w w.heap.size B m d b) (hn : n ≤ 3000) (hm : m ≤ 3000) (ha : natV a < pw 8192) (hb : pw 8192 ≤ natV b) :
    Calls Tryd.prog 28 #[.slice A n c, .slice B m d] w (NatRPost 2 0 w) := by
  have BA := Lib.hid (rbig_lt A n c a w h (by omega) ha)
  have HB := Lib.hid h'
  clear h h'
  go_enter Tryd.func28, Tryd.ntmps28
  go_wp2_with fail
  refine BA.out.mono ?_
  rintro e w1 ⟨rfl, hb1⟩
  have BB := Lib.hid (rbig_ge B m d b w1 (HB.out.on hb1) (by omega) hb)
  go_wp2_with fail
  refine BB.out.mono ?_
  rintro e w2 ⟨rfl, hb2⟩
  have fin := Lib.hid (NatRPost.nil (er := 2) (hb1.trans (hb2.mono hb1.size)))
  clear hb1 hb2
  go_wp2
  go_ret2
  exact fin.out
theorem rmul_over (A B : Option Addr) (n m c d : Nat) (a b : List Int) (w : World) (h : Sl w w.heap.size A n c a) (h' : Sl w w.heap.size B m d b) (hn : n ≤ 3000) (hm : m ≤ 3000) (hov : ¬ (natV a < pw 8192 ∧ natV b < pw 8192)) :
    Calls Tryd.prog 28 #[.slice A n c, .slice B m d] w (NatRPost 2 0 w) := by
  by_cases ha : natV a < pw 8192
  · exact rmul_over2 A B n m c d a b w h h' hn hm ha (by omega)
  · exact rmul_over1 A B n m c d a b w h h' hn hm (by omega)
set_option maxHeartbeats 2000000 in
theorem rdiv_over1 (A B : Option Addr) (n m c d : Nat) (a b : List Int) (w : World) (h : Sl w w.heap.size A n c a) (h' : Sl w w.heap.size B m d b) (hn : n ≤ 3000) (_hm : m ≤ 3000) (ha : pw 8192 ≤ natV a) :
    Calls Tryd.prog 30 #[.slice A n c, .slice B m d] w (NatR2Post 2 0 0 w) := by
  have BA := Lib.hid (rbig_ge A n c a w h (by omega) ha)
  have HB := Lib.hid h'
  clear h h'
  go_enter Tryd.func30, Tryd.ntmps30
  go_wp2_with fail
  refine BA.out.mono ?_
  rintro e w1 ⟨rfl, hb1⟩
  have fin := Lib.hid (NatR2Post.nil (er := 2) hb1)
  clear hb1
  go_wp2
  go_ret3
  exact fin.out
set_option maxHeartbeats 2000000 in
theorem rdiv_over2 (A B : Option Addr) (n m c d : Nat) (a b : List Int) (w : World) (h : Sl w w.heap.size A n c a) (h' : Sl w w.heap.size B m d b) (hn : n ≤ 3000) (hm : m ≤ 3000) (ha : natV a < pw 8192) (hb : pw 8192 ≤ natV b) :
    Calls Tryd.prog 30 #[.slice A n c, .slice B m d] w (NatR2Post 2 0 0 w) := by
  have BA := Lib.hid (rbig_lt A n c a w h (by omega) ha)
  have HB := Lib.hid h'
  clear h h'
  go_enter Tryd.func30, Tryd.ntmps30
  go_wp2_with fail
  refine BA.out.mono ?_
  rintro e w1 ⟨rfl, hb1⟩
  have BB := Lib.hid (rbig_ge B m d b w1 (HB.out.on hb1) (by omega) hb)
  go_wp2_with fail
  refine BB.out.mono ?_
  rintro e w2 ⟨rfl, hb2⟩
  have fin := Lib.hid (NatR2Post.nil (er := 2) (hb1.trans (hb2.mono hb1.size)))
  clear hb1 hb2
  go_wp2
  go_ret3
  exact fin.out
theorem rdiv_over (A B : Option Addr) (n m c d : Nat) (a b : List Int) (w : World) (h : Sl w w.heap.size A n c a) (h' : Sl w w.heap.size B m d b) (hn : n ≤ 3000) (hm : m ≤ 3000) (hov : ¬ (natV a < pw 8192 ∧ natV b < pw 8192)) :
    Calls Tryd.prog 30 #[.slice A n c, .slice B m d] w (NatR2Post 2 0 0 w) := by
  by_cases ha : natV a < pw 8192
  · exact rdiv_over2 A B n m c d a b w h h' hn hm ha (by omega)
  · exact rdiv_over1 A B n m c d a b w h h' hn hm (by omega)
set_option maxHeartbeats 2000000 in
theorem radd_ok (A B : Option Addr) (n m c d : Nat) (a b : List Int) (w : World) (h : Sl w w.heap.size A n c a) (h' : Sl w w.heap.size B m d b) (hn : n ≤ 3000) (hm : m ≤ 3000) (hov : natV a < pw 8192 ∧ natV b < pw 8192) :
    Calls Tryd.prog 24 #[.slice A n c, .slice B m d] w (NatRPost (overE (natV a + natV b)) (overV (natV a + natV b)) w) := by
  have BA := Lib.hid (rbig_lt A n c a w h (by omega) hov.1)
  have HA := Lib.hid h; have HB := Lib.hid h'
  have hb' := Lib.hid hov.2
  clear h h'
  go_enter Tryd.func24, Tryd.ntmps24
  go_wp2_with fail
  refine BA.out.mono ?_
  rintro e w1 ⟨rfl, hb1⟩
  have BB := Lib.hid (rbig_lt B m d b w1 (HB.out.on hb1) (by omega) hb'.out)
  go_wp2_with fail
  refine BB.out.mono ?_
  rintro e w2 ⟨rfl, hb2⟩
  have B2 := Lib.hid (hb1.trans (hb2.mono hb1.size))
  have HA2 := Lib.hid (HA.out.on B2.out); have HB2 := Lib.hid (HB.out.on B2.out)
  clear hb1 hb2 HA HB BA BB
  have TA := Lib.hid (rtrim_any A n c a _ HA2.out (by omega))
  go_wp2_with fail
  refine TA.out.mono ?_
  rintro e w3 ⟨A3, n3, c3, l3, rfl, h1, h2, h3, h4, h5⟩
  have n3b := norm_len (k := 256) h1.lim h2 (by rw [h3]; exact hov.1)
  rw [h1.len] at n3b
  have B3 := Lib.hid (B2.out.trans (h5.mono B2.out.size))
  have HB3 := Lib.hid (HB2.out.on h5)
  have S3 := Lib.hid (show Sl w3 w3.heap.size A3 n3 c3 l3 ∧ natV l3 = natV a from ⟨h1, h3⟩)
  clear h1 h2 h3 h4 h5 TA HA2 HB2 B2
  have TB := Lib.hid (rtrim_any B m d b _ HB3.out (by omega))
  go_wp2_with fail
  refine TB.out.mono ?_
  rintro e w4 ⟨A4, n4, c4, l4, rfl, h1, h2, h3, h4, h5⟩
  have n4b := norm_len (k := 256) h1.lim h2 (by rw [h3]; exact hov.2)
  rw [h1.len] at n4b
  have B4 := Lib.hid (B3.out.trans (h5.mono B3.out.size))
  have S4 := Lib.hid (show Sl w4 w4.heap.size A4 n4 c4 l4 ∧ natV l4 = natV b from ⟨h1, h3⟩)
  have S3 := Lib.hid (show Sl w4 w4.heap.size A3 n3 c3 l3 ∧ natV l3 = natV a from ⟨S3.out.1.on h5, S3.out.2⟩)
  clear h1 h2 h3 h4 h5 TB HB3 B3
  have PL := Lib.hid (rplus_any A3 A4 n3 n4 c3 c4 l3 l4 w4 S3.out.1 S4.out.1 (by omega) (by omega))
  go_wp2_with fail
  refine PL.out.mono ?_
  rintro e w5 ⟨A5, n5, c5, l5, rfl, h1, h2, h3, h4, h5⟩
  rw [S3.out.2, S4.out.2] at h3
  have n5b := norm_len (k := 512) h1.lim h2 (by
    rw [h3]
    have e : pw (32 * ((512 : Nat) : Int)) = pw 8192 * pw 8192 := by rw [← pw_add _ _ (by decide) (by decide)]; rfl
    rw [e]
    have a0 := natV_nonneg S3.out.1.lim; have b0 := natV_nonneg S4.out.1.lim
    rw [S3.out.2] at a0; rw [S4.out.2] at b0
    have p1 := pw_mono (a := 1) (b := 8192) (by decide) (by decide)
    rw [show pw 1 = 2 from rfl] at p1
    have hv := hov
    generalize pw 8192 = P at *
    have q := Int.mul_le_mul_of_nonneg_right p1 (show 0 ≤ P by omega); omega)
  rw [h1.len] at n5b
  have FT := Lib.hid (rfits_own h1 h2 h3 (h4.mono B4.out.size) (B4.out.trans (h5.mono B4.out.size)) (by omega))
  clear h1 h2 h3 h4 h5 PL S3 S4 B4
  go_wp2_with fail
  refine FT.out.mono ?_
  intro e w6 hp
  obtain ⟨A6, n6, c6, l6, rfl, h1, h2, h3, h4, h5⟩ := hp
  have fin := Lib.hid (NatRPost.mk (er := overE (natV a + natV b)) h1 h2 h3 h4 h5)
  clear h1 h2 h3 h4 h5
  go_wp2
  go_ret2
  exact fin.out
theorem radd_all (A B : Option Addr) (n m c d : Nat) (a b : List Int) (w : World) (h : Sl w w.heap.size A n c a) (h' : Sl w w.heap.size B m d b) (hn : n ≤ 3000) (hm : m ≤ 3000) :
    Calls Tryd.prog 24 #[.slice A n c, .slice B m d] w (NatRPost (addE (natV a) (natV b)) (addV (natV a) (natV b)) w) := by
  unfold addE addV
  by_cases hov : natV a < pw 8192 ∧ natV b < pw 8192
  · rw [(both_ok (v := 0) hov).1, (both_ok (e := 0) hov).2]
    exact radd_ok A B n m c d a b w h h' hn hm hov
  · rw [(both_no (v := 0) hov).1, (both_no (e := 0) hov).2]
    exact radd_over A B n m c d a b w h h' hn hm hov
set_option maxHeartbeats 2000000 in
theorem rmul_ok (A B : Option Addr) (n m c d : Nat) (a b : List Int) (w : World) (h : Sl w w.heap.size A n c a) (h' : Sl w w.heap.size B m d b) (hn : n ≤ 3000) (hm : m ≤ 3000) (hov : natV a < pw 8192 ∧ natV b < pw 8192) :
    Calls Tryd.prog 28 #[.slice A n c, .slice B m d] w (NatRPost (overE (natV a * natV b)) (overV (natV a * natV b)) w) := by
  have BA := Lib.hid (rbig_lt A n c a w h (by omega) hov.1)
  have HA := Lib.hid h; have HB := Lib.hid h'
  have hb' := Lib.hid hov.2
  clear h h'
  go_enter Tryd.func28, Tryd.ntmps28
  go_wp2_with fail
  refine BA.out.mono ?_
  rintro e w1 ⟨rfl, hb1⟩
  have BB := Lib.hid (rbig_lt B m d b w1 (HB.out.on hb1) (by omega) hb'.out)
  go_wp2_with fail
  refine BB.out.mono ?_
  rintro e w2 ⟨rfl, hb2⟩
  have B2 := Lib.hid (hb1.trans (hb2.mono hb1.size))
  have HA2 := Lib.hid (HA.out.on B2.out); have HB2 := Lib.hid (HB.out.on B2.out)
  clear hb1 hb2 HA HB BA BB
  have TA := Lib.hid (rtrim_any A n c a _ HA2.out (by omega))
  go_wp2_with fail
  refine TA.out.mono ?_
  rintro e w3 ⟨A3, n3, c3, l3, rfl, h1, h2, h3, h4, h5⟩
  have n3b := norm_len (k := 256) h1.lim h2 (by rw [h3]; exact hov.1)
  rw [h1.len] at n3b
  have B3 := Lib.hid (B2.out.trans (h5.mono B2.out.size))
  have HB3 := Lib.hid (HB2.out.on h5)
  have S3 := Lib.hid (show Sl w3 w3.heap.size A3 n3 c3 l3 ∧ natV l3 = natV a from ⟨h1, h3⟩)
  clear h1 h2 h3 h4 h5 TA HA2 HB2 B2
  have TB := Lib.hid (rtrim_any B m d b _ HB3.out (by omega))
  go_wp2_with fail
  refine TB.out.mono ?_
  rintro e w4 ⟨A4, n4, c4, l4, rfl, h1, h2, h3, h4, h5⟩
  have n4b := norm_len (k := 256) h1.lim h2 (by rw [h3]; exact hov.2)
  rw [h1.len] at n4b
  have B4 := Lib.hid (B3.out.trans (h5.mono B3.out.size))
  have S4 := Lib.hid (show Sl w4 w4.heap.size A4 n4 c4 l4 ∧ natV l4 = natV b from ⟨h1, h3⟩)
  have S3 := Lib.hid (show Sl w4 w4.heap.size A3 n3 c3 l3 ∧ natV l3 = natV a from ⟨S3.out.1.on h5, S3.out.2⟩)
  clear h1 h2 h3 h4 h5 TB HB3 B3
  have PL := Lib.hid (rtimes_any A3 A4 n3 n4 c3 c4 l3 l4 w4 S3.out.1 S4.out.1 (by omega) (by omega))
  go_wp2_with fail
  refine PL.out.mono ?_
  rintro e w5 ⟨A5, n5, c5, l5, rfl, h1, h2, h3, h4, h5⟩
  rw [S3.out.2, S4.out.2] at h3
  have n5b := norm_len (k := 512) h1.lim h2 (by
    rw [h3]
    have e : pw (32 * ((512 : Nat) : Int)) = pw 8192 * pw 8192 := by rw [← pw_add _ _ (by decide) (by decide)]; rfl
    rw [e]
    have a0 := natV_nonneg S3.out.1.lim; have b0 := natV_nonneg S4.out.1.lim
    rw [S3.out.2] at a0; rw [S4.out.2] at b0
    have p1 := pw_mono (a := 1) (b := 8192) (by decide) (by decide)
    rw [show pw 1 = 2 from rfl] at p1
    have hv := hov
    generalize pw 8192 = P at *
    exact Int.lt_of_le_of_lt (Int.mul_le_mul_of_nonneg_right (Int.le_of_lt hv.1) b0) (Int.mul_lt_mul_of_pos_left hv.2 (by omega)))
  rw [h1.len] at n5b
  have FT := Lib.hid (rfits_own h1 h2 h3 (h4.mono B4.out.size) (B4.out.trans (h5.mono B4.out.size)) (by omega))
  clear h1 h2 h3 h4 h5 PL S3 S4 B4
  go_wp2_with fail
  refine FT.out.mono ?_
  intro e w6 hp
  obtain ⟨A6, n6, c6, l6, rfl, h1, h2, h3, h4, h5⟩ := hp
  have fin := Lib.hid (NatRPost.mk (er := overE (natV a * natV b)) h1 h2 h3 h4 h5)
  clear h1 h2 h3 h4 h5
  go_wp2
  go_ret2
  exact fin.out
theorem rmul_all (A B : Option Addr) (n m c d : Nat) (a b : List Int) (w : World) (h : Sl w w.heap.size A n c a) (h' : Sl w w.heap.size B m d b) (hn : n ≤ 3000) (hm : m ≤ 3000) :
    Calls Tryd.prog 28 #[.slice A n c, .slice B m d] w (NatRPost (mulE (natV a) (natV b)) (mulV (natV a) (natV b)) w) := by
  unfold mulE mulV
  by_cases hov : natV a < pw 8192 ∧ natV b < pw 8192
  · rw [(both_ok (v := 0) hov).1, (both_ok (e := 0) hov).2]
    exact rmul_ok A B n m c d a b w h h' hn hm hov
  · rw [(both_no (v := 0) hov).1, (both_no (e := 0) hov).2]
    exact rmul_over A B n m c d a b w h h' hn hm hov
set_option maxHeartbeats 2000000 in
theorem rsub_lt (A B : Option Addr) (n m c d : Nat) (a b : List Int) (w : World) (h : Sl w w.heap.size A n c a) (h' : Sl w w.heap.size B m d b) (hn : n ≤ 3000) (hm : m ≤ 3000) (hov : natV a < pw 8192 ∧ natV b < pw 8192) (hlt : natV a < natV b) :
    Calls Tryd.prog 26 #[.slice A n c, .slice B m d] w (NatRPost 6 0 w) := by
  have BA := Lib.hid (rbig_lt A n c a w h (by omega) hov.1)
  have HA := Lib.hid h; have HB := Lib.hid h'
  have hb' := Lib.hid hov.2
  clear h h'
  go_enter Tryd.func26, Tryd.ntmps26
  go_wp2_with fail
  refine BA.out.mono ?_
  rintro e w1 ⟨rfl, hb1⟩
  have BB := Lib.hid (rbig_lt B m d b w1 (HB.out.on hb1) (by omega) hb'.out)
  go_wp2_with fail
  refine BB.out.mono ?_
  rintro e w2 ⟨rfl, hb2⟩
  have B2 := Lib.hid (hb1.trans (hb2.mono hb1.size))
  have HA2 := Lib.hid (HA.out.on B2.out); have HB2 := Lib.hid (HB.out.on B2.out)
  clear hb1 hb2 HA HB BA BB
  have CM := Lib.hid (rcmp_any A B n m c d a b _ HA2.out HB2.out (by omega) (by omega))
  unfold NCmpPost at CM
  rw [show cmpI (natV a) (natV b) = -1 by unfold cmpI; rw [if_pos hlt]] at CM
  go_wp2_with fail
  refine CM.out.mono ?_
  rintro e w3 ⟨rfl, hb3⟩
  have fin := Lib.hid (NatRPost.nil (er := 6) (B2.out.trans (hb3.mono B2.out.size)))
  clear hb3 CM
  go_wp2
  go_ret2
  exact fin.out
set_option maxHeartbeats 2000000 in
theorem rsub_ok (A B : Option Addr) (n m c d : Nat) (a b : List Int) (w : World) (h : Sl w w.heap.size A n c a) (h' : Sl w w.heap.size B m d b) (hn : n ≤ 3000) (hm : m ≤ 3000) (hov : natV a < pw 8192 ∧ natV b < pw 8192) (hlt : ¬ natV a < natV b) :
    Calls Tryd.prog 26 #[.slice A n c, .slice B m d] w (NatRPost 0 (natV a - natV b) w) := by
  have BA := Lib.hid (rbig_lt A n c a w h (by omega) hov.1)
  have HA := Lib.hid h; have HB := Lib.hid h'
  have hb' := Lib.hid hov.2
  clear h h'
  go_enter Tryd.func26, Tryd.ntmps26
  go_wp2_with fail
  refine BA.out.mono ?_
  rintro e w1 ⟨rfl, hb1⟩
  have BB := Lib.hid (rbig_lt B m d b w1 (HB.out.on hb1) (by omega) hb'.out)
  go_wp2_with fail
  refine BB.out.mono ?_
  rintro e w2 ⟨rfl, hb2⟩
  have B2 := Lib.hid (hb1.trans (hb2.mono hb1.size))
  have HA2 := Lib.hid (HA.out.on B2.out); have HB2 := Lib.hid (HB.out.on B2.out)
  clear hb1 hb2 HA HB BA BB
  have CM := Lib.hid (rcmp_any A B n m c d a b _ HA2.out HB2.out (by omega) (by omega))
  unfold NCmpPost at CM
  obtain ⟨r, hr⟩ : ∃ r, cmpI (natV a) (natV b) = r := ⟨_, rfl⟩
  have r0 : ¬ r < 0 := by rw [← hr]; unfold cmpI; rw [if_neg (by omega)]; split <;> decide
  rw [hr] at CM
  clear hr
  go_wp2_with fail
  refine CM.out.mono ?_
  rintro e w3 ⟨rfl, hb3⟩
  replace HA2 := Lib.hid (HA2.out.on hb3)
  replace HB2 := Lib.hid (HB2.out.on hb3)
  replace B2 := Lib.hid (B2.out.trans (hb3.mono B2.out.size))
  clear hb3 CM
  have TA := Lib.hid (rtrim_any A n c a _ HA2.out (by omega))
  go_wp2_with fail
  refine TA.out.mono ?_
  rintro e w3 ⟨A3, n3, c3, l3, rfl, h1, h2, h3, h4, h5⟩
  have n3b := norm_len (k := 256) h1.lim h2 (by rw [h3]; exact hov.1)
  rw [h1.len] at n3b
  have B3 := Lib.hid (B2.out.trans (h5.mono B2.out.size))
  have HB3 := Lib.hid (HB2.out.on h5)
  have S3 := Lib.hid (show Sl w3 w3.heap.size A3 n3 c3 l3 ∧ natV l3 = natV a from ⟨h1, h3⟩)
  clear h1 h2 h3 h4 h5 TA HA2 HB2 B2
  have TB := Lib.hid (rtrim_any B m d b _ HB3.out (by omega))
  go_wp2_with fail
  refine TB.out.mono ?_
  rintro e w4 ⟨A4, n4, c4, l4, rfl, h1, h2, h3, h4, h5⟩
  have n4b := norm_len (k := 256) h1.lim h2 (by rw [h3]; exact hov.2)
  rw [h1.len] at n4b
  have B4 := Lib.hid (B3.out.trans (h5.mono B3.out.size))
  have S4 := Lib.hid (show Sl w4 w4.heap.size A4 n4 c4 l4 ∧ natV l4 = natV b from ⟨h1, h3⟩)
  have S3 := Lib.hid (show Sl w4 w4.heap.size A3 n3 c3 l3 ∧ natV l3 = natV a from ⟨S3.out.1.on h5, S3.out.2⟩)
  clear h1 h2 h3 h4 h5 TB HB3 B3
  have PL := Lib.hid (rless_any A3 A4 n3 n4 c3 c4 l3 l4 w4 S3.out.1 S4.out.1 (by omega) (by omega) (by rw [S3.out.2, S4.out.2]; omega))
  go_wp2_with fail
  refine PL.out.mono ?_
  rintro e w5 ⟨A5, n5, c5, l5, rfl, h1, h2, h3, h4, h5⟩
  rw [S3.out.2, S4.out.2] at h3
  have fin := Lib.hid (NatRPost.mk (er := 0) h1 h2 h3 (h4.mono B4.out.size) (B4.out.trans (h5.mono B4.out.size)))
  clear h1 h2 h3 h4 h5 PL S3 S4 B4
  go_wp2
  go_ret2
  exact fin.out
theorem rsub_all (A B : Option Addr) (n m c d : Nat) (a b : List Int) (w : World) (h : Sl w w.heap.size A n c a) (h' : Sl w w.heap.size B m d b) (hn : n ≤ 3000) (hm : m ≤ 3000) :
    Calls Tryd.prog 26 #[.slice A n c, .slice B m d] w (NatRPost (subE (natV a) (natV b)) (subV (natV a) (natV b)) w) := by
  unfold subE subV
  by_cases hov : natV a < pw 8192 ∧ natV b < pw 8192
  · rw [(both_ok (v := 0) hov).1, (both_ok (e := 0) hov).2]
    by_cases hlt : natV a < natV b
    · rw [if_pos hlt, if_pos hlt]
      exact rsub_lt A B n m c d a b w h h' hn hm hov hlt
    · rw [if_neg hlt, if_neg hlt]
      exact rsub_ok A B n m c d a b w h h' hn hm hov hlt
  · rw [(both_no (v := 0) hov).1, (both_no (e := 0) hov).2]
    exact rsub_over A B n m c d a b w h h' hn hm hov
set_option maxHeartbeats 2000000 in
theorem rdiv_zero (A B : Option Addr) (n m c d : Nat) (a b : List Int) (w : World) (h : Sl w w.heap.size A n c a) (h' : Sl w w.heap.size B m d b) (hn : n ≤ 3000) (hm : m ≤ 3000) (hov : natV a < pw 8192 ∧ natV b < pw 8192) (hz : natV b = 0) :
    Calls Tryd.prog 30 #[.slice A n c, .slice B m d] w (NatR2Post 10 0 0 w) := by
  have BA := Lib.hid (rbig_lt A n c a w h (by omega) hov.1)
  have HA := Lib.hid h; have HB := Lib.hid h'
  have hb' := Lib.hid hov.2
  clear h h'
  go_enter Tryd.func30, Tryd.ntmps30
  go_wp2_with fail
  refine BA.out.mono ?_
  rintro e w1 ⟨rfl, hb1⟩
  have BB := Lib.hid (rbig_lt B m d b w1 (HB.out.on hb1) (by omega) hb'.out)
  go_wp2_with fail
  refine BB.out.mono ?_
  rintro e w2 ⟨rfl, hb2⟩
  have B2 := Lib.hid (hb1.trans (hb2.mono hb1.size))
  have HA2 := Lib.hid (HA.out.on B2.out); have HB2 := Lib.hid (HB.out.on B2.out)
  clear hb1 hb2 HA HB BA BB
  have TZ := Lib.hid (rtrim_any B m d b _ HB2.out (by omega))
  have hz := Lib.hid hz
  go_wp2_with fail
  refine TZ.out.mono ?_
  rintro e w3 ⟨A3, n3, c3, l3, rfl, h1, h2, h3, h4, h5⟩
  have n3b := norm_len (k := 256) h1.lim h2 (by rw [h3]; exact hov.2)
  rw [h1.len] at n3b
  have ez : n3 = 0 := by
    have := norm_zero h1.lim h2 (by rw [h3]; exact hz.out)
    rw [← h1.len, this]; rfl
  subst ez
  have fin := Lib.hid (NatR2Post.nil (er := 10) (B2.out.trans (h5.mono B2.out.size)))
  clear h1 h2 h3 h4 h5 TZ HA2 HB2
  go_wp2
  go_ret3
  exact fin.out
set_option maxHeartbeats 2000000 in
theorem rdiv_pos (A B : Option Addr) (n m c d : Nat) (a b : List Int) (w : World) (h : Sl w w.heap.size A n c a) (h' : Sl w w.heap.size B m d b) (hn : n ≤ 3000) (hm : m ≤ 3000) (hov : natV a < pw 8192 ∧ natV b < pw 8192) (hz : 0 < natV b) :
    Calls Tryd.prog 30 #[.slice A n c, .slice B m d] w (NatQ2Post 0 (natV a / natV b) (natV a % natV b) w) := by
  have BA := Lib.hid (rbig_lt A n c a w h (by omega) hov.1)
  have HA := Lib.hid h; have HB := Lib.hid h'
  have hb' := Lib.hid hov.2
  clear h h'
  go_enter Tryd.func30, Tryd.ntmps30
  go_wp2_with fail
  refine BA.out.mono ?_
  rintro e w1 ⟨rfl, hb1⟩
  have BB := Lib.hid (rbig_lt B m d b w1 (HB.out.on hb1) (by omega) hb'.out)
  go_wp2_with fail
  refine BB.out.mono ?_
  rintro e w2 ⟨rfl, hb2⟩
  have B2 := Lib.hid (hb1.trans (hb2.mono hb1.size))
  have HA2 := Lib.hid (HA.out.on B2.out); have HB2 := Lib.hid (HB.out.on B2.out)
  clear hb1 hb2 HA HB BA BB
  have TZ := Lib.hid (rtrim_any B m d b _ HB2.out (by omega))
  have hz := Lib.hid hz
  go_wp2_with fail
  refine TZ.out.mono ?_
  rintro e w3 ⟨A3, n3, c3, l3, rfl, h1, h2, h3, h4, h5⟩
  have n3b := norm_len (k := 256) h1.lim h2 (by rw [h3]; exact hov.2)
  rw [h1.len] at n3b
  have nz : 0 < n3 := by
    rcases Nat.eq_zero_or_pos n3 with z | z
    · have e := List.eq_nil_of_length_eq_zero (h1.len.trans z)
      rw [e] at h3
      have := hz.out
      rw [← h3] at this
      exact absurd this (by decide)
    · exact z
  have nz2 : ¬ (n3 : Int) = 0 := by omega
  have nz3 : ((n3 : Int) == 0) = false := by simpa using nz2
  have nz4 : ¬ n3 = 0 := by omega
  replace HA2 := Lib.hid (HA2.out.on h5)
  replace HB2 := Lib.hid (HB2.out.on h5)
  replace B2 := Lib.hid (B2.out.trans (h5.mono B2.out.size))
  clear h1 h2 h3 h4 h5 TZ
  have TA := Lib.hid (rtrim_any A n c a _ HA2.out (by omega))
  go_wp2_with fail
  refine TA.out.mono ?_
  rintro e x3 ⟨D3, k3, e3, m3, rfl, h1, h2, h3, h4, h5⟩
  have k3b := norm_len (k := 256) h1.lim h2 (by rw [h3]; exact hov.1)
  rw [h1.len] at k3b
  have B3 := Lib.hid (B2.out.trans (h5.mono B2.out.size))
  have HB3 := Lib.hid (HB2.out.on h5)
  have S3 := Lib.hid (show Sl x3 x3.heap.size D3 k3 e3 m3 ∧ natV m3 = natV a from ⟨h1, h3⟩)
  clear h1 h2 h3 h4 h5 TA HA2 HB2 B2
  have TB := Lib.hid (rtrim_any B m d b _ HB3.out (by omega))
  go_wp2_with fail
  refine TB.out.mono ?_
  rintro e x4 ⟨D4, k4, e4, m4, rfl, h1, h2, h3, h4, h5⟩
  have k4b := norm_len (k := 256) h1.lim h2 (by rw [h3]; exact hov.2)
  rw [h1.len] at k4b
  have B4 := Lib.hid (B3.out.trans (h5.mono B3.out.size))
  have S4 := Lib.hid (show Sl x4 x4.heap.size D4 k4 e4 m4 ∧ natV m4 = natV b from ⟨h1, h3⟩)
  have S3 := Lib.hid (show Sl x4 x4.heap.size D3 k3 e3 m3 ∧ natV m3 = natV a from ⟨S3.out.1.on h5, S3.out.2⟩)
  clear h1 h2 h3 h4 h5 TB HB3 B3
  have PL := Lib.hid (rparts_any D3 D4 k3 k4 e3 e4 m3 m4 x4 S3.out.1 S4.out.1 (by omega) (by omega) (by rw [S4.out.2]; exact hz.out))
  go_wp2_with fail
  refine PL.out.mono ?_
  rintro e w5 ⟨P1, p1, q1, o1, P2, p2, q2, o2, rfl, g1, g2, g3, g4, g5, g6, g7⟩
  have fin : Hid (NatQ2Post 0 (natV a / natV b) (natV a % natV b) w (.returned (.tuple #[.slice P1 p1 q1, .slice P2 p2 q2, .int .i64 0])) w5) :=
    ⟨P1, p1, q1, o1, P2, p2, q2, o2, rfl, ⟨g1, g2, by rw [g3, S3.out.2, S4.out.2]⟩, ⟨g4, g5, by rw [g6, S3.out.2, S4.out.2]⟩, B4.out.trans (g7.mono B4.out.size)⟩
  clear g1 g2 g3 g4 g5 g6 g7 PL S3 S4 B4
  go_wp2
  go_ret3
  exact fin.out
theorem rdiv_any (A B : Option Addr) (n m c d : Nat) (a b : List Int) (w : World) (h : Sl w w.heap.size A n c a) (h' : Sl w w.heap.size B m d b) (hn : n ≤ 3000) (hm : m ≤ 3000) :
    Calls Tryd.prog 30 #[.slice A n c, .slice B m d] w (NatQ2Post (divE (natV a) (natV b)) (divQ (natV a) (natV b)) (divR (natV a) (natV b)) w) := by
  by_cases hov : natV a < pw 8192 ∧ natV b < pw 8192
  · by_cases hz : natV b = 0
    · obtain ⟨e1, e2, e3⟩ := div_zero hov hz
      rw [e1, e2, e3]
      exact (rdiv_zero A B n m c d a b w h h' hn hm hov hz).mono fun _ _ z => z.q
    · obtain ⟨e1, e2, e3⟩ := div_ok hov hz
      rw [e1, e2, e3]
      exact rdiv_pos A B n m c d a b w h h' hn hm hov (by have := natV_nonneg h'.lim; omega)
  · obtain ⟨e1, e2, e3⟩ := div_no hov
    rw [e1, e2, e3]
    exact (rdiv_over A B n m c d a b w h h' hn hm hov).mono fun _ _ z => z.q
end Go.Proofs.YtmjidpkddiinaaaDoor

/-
  The document's naturals: Value, Shl, Shr of any lists: walked.
-/
namespace Go.Proofs.YtmjidpkddiinaaaDoor
open Go.RowKit Go.Shelf

theorem natV_drop_step {x : List Int} {j : Nat} (h : j < x.length) : natV (x.drop j) = natV (x.drop (j + 1)) * 4294967296 + digV x j := by
  rw [List.drop_eq_getElem_cons h, natV, digV_lt h]; omega
set_option maxHeartbeats 2000000 in
theorem rvalue_any (A : Option Addr) (n c : Nat) (l : List Int) (w : World) (h : Sl w w.heap.size A n c l) (hn : n ≤ 30000) :
    Calls Tryd.prog 18 #[.slice A n c] w fun e w' => e = .returned (.tuple #[.int .u64 (valV (natV l)), .bool (valB (natV l))]) ∧ Below w.heap.size w w' := by
  have HT := Lib.hid (rtrim_any A n c l w h (by omega))
  obtain ⟨V, B, hV⟩ : ∃ V B, valV (natV l) = V ∧ valB (natV l) = B := ⟨_, _, rfl, rfl⟩
  rw [hV.1, hV.2]
  replace hV := Lib.hid hV
  have nb := Lib.hid (show ∀ m : List Int, (∀ x ∈ m, Limb x) → Norm m → natV m = natV l → m.length ≤ n from fun m h1 h2 h3 => norm_len h1 h2 (by rw [h3, ← h.len]; exact natV_lt h.lim))
  clear h
  go_enter Tryd.func18, Tryd.ntmps18
  go_wp2_with fail
  refine HT.out.mono ?_
  rintro e w1 ⟨A1, k, c1, x, rfl, S, nk, hv, fr, hb⟩
  have nb1 := nb.out x S.lim nk hv
  rw [S.len] at nb1
  have kb : (k : Int) ≤ 30000 := by omega
  have HV := Lib.hid (show valV (natV x) = V ∧ valB (natV x) = B by rw [hv]; exact hV.out)
  have hb := Lib.hid hb
  clear hv fr HT nb hV
  rcases Nat.lt_or_ge k 3 with k3 | k3
  · have k2 : ¬ (2 : Int) < (k : Int) := by omega
    have xl := S.len
    have xlt := natV_lt S.lim
    have e1 := HV.out
    have e2 := val_ok (v := natV x) (by
      rw [xl] at xlt
      have := pw_mono (a := 32 * (k : Int)) (b := 64) (by omega) (by omega)
      rw [show pw 64 = 18446744073709551616 from rfl] at this
      omega)
    rw [e2.1, e2.2] at e1
    obtain ⟨e1, rfl⟩ := e1
    have E1 := Lib.hid e1
    have xd := Lib.hid (digV_limb S.lim)
    have XL := Lib.hid xl
    have xlims := Lib.hid S.lim
    have HC : Hid (∀ i : Nat, i < k → ∃ b o, A1 = some ⟨b, o, none⟩ ∧ w1.cell? ⟨b, o + i, none⟩ = some (.int .u32 (digV x i))) := fun i hi => by
      rcases S.rd with z | ⟨b, o, rfl, _, hc⟩
      · omega
      · exact ⟨b, o, rfl, by rw [digV_lt (by omega)]; exact hc i (by omega)⟩
    have z0 : Hid (natV (x.drop k) = 0) := by unfold Hid; rw [List.drop_eq_nil_of_le (by omega)]; rfl
    clear S nk e2 HV xlt e1 xl
    go_wp2
    go_loopw [5, 6] (fun vv ii wx => ∃ j : Nat, ∃ v : Int, j ≤ k ∧ ii = .int .i64 ((j : Int) - 1) ∧ vv = .int .u64 v ∧ Hid (v = natV (x.drop j)) ∧ ∃ q, w1.drewN q = wx) (fun _ ii _ => (intOf ii + 1).toNat)
    case atStart => exact ⟨k, 0, by omega, rfl, rfl, z0.out.symm, 0, rfl⟩
    case round =>
      obtain ⟨j, v, hj, rfl, rfl, hv, q, rfl⟩ := hrel
      by_cases j0 : 0 < j
      · obtain ⟨i, rfl⟩ : ∃ i, j = i + 1 := ⟨j - 1, by omega⟩
        have ei : ((i + 1 : Nat) : Int) - 1 = (i : Int) := by omega
        rw [ei]
        have i0 : (0 : Int) ≤ (i : Int) := by omega
        have ik : (i : Int) < (k : Int) := by omega
        obtain ⟨b, o, rfl, cell⟩ := HC.out i (by omega)
        have st := natV_drop_step (x := x) (j := i) (by rw [XL.out]; omega)
        rw [← hv.out] at st
        obtain ⟨d0, d1⟩ := xd.out i
        have v0 : 0 ≤ v := by rw [hv.out]; exact natV_nonneg (limbs_drop xlims.out _)
        have v1 : v < 4294967296 := by
          rw [hv.out]
          have := natV_lt (limbs_drop xlims.out (i + 1))
          rw [List.length_drop, XL.out] at this
          have := pw_mono (a := 32 * ((k - (i + 1) : Nat) : Int)) (b := 32) (by omega) (by omega)
          rw [show pw 32 = 4294967296 from rfl] at this
          omega
        generalize digV x i = D at *
        have wv : IntKind.u64.wrap (v * 4294967296) = v * 4294967296 := by rw [IntKind.wrap_u64]; omega
        have ws : IntKind.u64.wrap (v * 4294967296 + D) = v * 4294967296 + D := by rw [IntKind.wrap_u64]; omega
        have st := Lib.hid st.symm
        clear HC hv xlims xd
        go_wp2
        go_roundw
        case rel => exact ⟨i, _, by omega, rfl, rfl, st, _, rfl⟩
        case measure => simp [intOf]
      · obtain rfl : j = 0 := by omega
        have ev : v = V := by rw [hv.out, List.drop_zero]; exact E1.out
        have fin := Lib.hid ev
        clear hv ev
        go_wp2
        go_ret2
        exact ⟨by rw [← fin.out]; rfl, below_drewN hb.out _⟩
  · have ge := norm_ge S.lim nk (k := 2) (by rw [S.len]; omega)
    rw [show pw (32 * ((2 : Nat) : Int)) = 18446744073709551616 from rfl] at ge
    have e1 := HV.out
    have e2 := val_no ge
    rw [e2.1, e2.2] at e1
    obtain ⟨rfl, rfl⟩ := e1
    have k2 : (2 : Int) < (k : Int) := by omega
    clear S nk e2 HV ge
    go_wp2
    go_ret2
    exact ⟨rfl, hb.out⟩
set_option maxHeartbeats 4000000 in
theorem rshl_ok (A : Option Addr) (n c : Nat) (a : List Int) (s : Int) (w : World) (h : Sl w w.heap.size A n c a) (hn : n ≤ 3000) (s0 : 0 ≤ s) (s1 : s ≤ 8192) (hP : natV a * pw s < pw 8192) :
    Calls Tryd.prog 32 #[.slice A n c, .int .i64 s] w (NatOPost (natV a * pw s) w) := by
  have a0' := natV_nonneg h.lim
  have aP : natV a < pw 8192 := by
    have := Int.mul_le_mul_of_nonneg_left (show 1 ≤ pw s by have := pw_pos s; omega) a0'
    generalize pw 8192 = P at *; omega
  have HBig := Lib.hid (rbig_lt A n c a w h (by omega) aP)
  have HA := Lib.hid h
  have hle := Lib.hid (show ∀ m : List Int, (∀ x ∈ m, Limb x) → Norm m → natV m = natV a → m.length ≤ 256 from fun m h1 h2 h3 => norm_len h1 h2 (by rw [h3]; exact aP))
  have HP := Lib.hid hP
  clear hP aP a0'
  have hlt : Hid (natV a < pw (32 * (n : Int))) := by rw [← h.len]; exact natV_lt h.lim
  clear h
  go_enter Tryd.func32, Tryd.ntmps32
  go_wp2_with fail
  refine HBig.out.mono ?_
  rintro e w1 ⟨rfl, hb1⟩
  have HT := Lib.hid (rtrim_any A n c a w1 (HA.out.on hb1) (by omega))
  clear HBig HA
  go_wp2_with fail
  refine HT.out.mono ?_
  rintro e w2 ⟨A2, n2, c2, l2, rfl, hs2, hn2, hv2, fr2, hb2⟩
  have n2b : n2 ≤ 256 := by have := hle.out l2 hs2.lim hn2 hv2; rw [hs2.len] at this; exact this
  have hv := Lib.hid hv2
  have hB2 : Below w.heap.size w w2 := hb1.trans (hb2.mono hb1.size)
  clear hv2 HT hb1 hb2 fr2
  by_cases c0 : n2 = 0
  · have fin := Lib.hid (NatOPost.mk (v := natV a * pw s) (w := w) (Sl.nil_ w2 w2.heap.size) norm_nil (by
      have e : l2 = [] := List.eq_nil_of_length_eq_zero (by rw [hs2.len]; exact c0)
      rw [← hv.out, e]; simp [natV]) (fun _ e => by cases e) hB2)
    have cz : ((n2 : Int) == 0) = true := by simp [c0]
    have c0 := Lib.hid c0
    clear hs2 hn2
    go_wp2
    go_ret2
    exact fin.out
  · have cz : ((n2 : Int) == 0) = false := by simpa using c0
    have HL := Lib.hid (rlen_any A2 n2 c2 l2 w2 hs2 (by omega))
    have HS := Lib.hid hs2
    clear hs2 c0
    go_wp2_with fail
    refine HL.out.mono ?_
    rintro e w3 ⟨L, hL, rfl, hb3⟩
    have hL1 : L + s ≤ 8192 := by
      have hv0 := hv.out
      by_cases z : natV l2 = 0
      · rw [hL.z z]; omega
      · have h1 := hL.ge z
        rw [hv0] at h1
        have h2 := HP.out
        have h3 := Int.mul_le_mul_of_nonneg_right h1 (Int.le_of_lt (pw_pos s))
        rw [Int.mul_assoc, ← pw_add _ _ hL.n0 s0] at h3
        have h4 : pw (L + s) < pw 8193 := by
          have : pw 8193 = 2 * pw 8192 := pw_succ 8192 (by decide)
          generalize pw 8192 = P at *; omega
        have := pw_inj_le (by decide) h4
        omega
    have hL0 := hL.n0
    have hB3 : Below w.heap.size w w3 := hB2.trans (hb3.mono hB2.size)
    obtain ⟨j, hj⟩ : ∃ j : Nat, s / 32 = (j : Int) := ⟨(s / 32).toNat, by omega⟩
    have hj2 : j ≤ 256 := by omega
    have HS3 := Lib.hid (HS.out.on hb3)
    have hn2l : Hid (∃ b o, A2 = some ⟨b, o, none⟩ ∧ b < w3.heap.size ∧ ∀ i : Nat, (h : i < l2.length) → w3.cell? ⟨b, o + i, none⟩ = some (.int .u32 l2[i])) := by
      rcases HS3.out.rd with h0 | h0
      · rw [h0] at cz; simp at cz
      · exact h0
    obtain ⟨b, o, rfl, hbl, hcl⟩ := hn2l.out
    have HC : Hid (∀ W, Below w3.heap.size w3 W → ∀ i : Nat, (h : i < l2.length) → W.cell? ((⟨b, o, none⟩ : Addr).add i) = some (.int .u32 l2[i])) := fun W hW i hi => by
      rw [Addr.add_lit, hW.cell (p := ⟨b, o + i, none⟩) hbl]; exact hcl i hi
    have HLen := Lib.hid HS3.out.len
    have HLim := Lib.hid HS3.out.lim
    have ts : s ≤ 8192 := by omega
    have ts2 : L + s ≤ 8192 := by omega
    clear hL HL HS hb3 hB2 hn2l hcl HS3
    go_wp2_with (first
      | (at_make; refine wpList_mk rfl _ _ rfl w3.heap.size _ _ j rfl rfl (by assumption) (by assumption) (by omega) (Nat.le_refl _) ?_; intro w4 hown4 hb4 hz4)
      | (at_builtin; refine wpList_app rfl _ _ rfl w3.heap.size _ j (List.replicate j 0) hown4 rfl ⟨b, o, none⟩ n2 c2 l2 rfl HLen.out (HC.out _ hb4) (by omega) hb4.size ?_; intro v5 w5 hown5 hb5))
    have lim5 : ∀ x ∈ List.replicate j (0 : Int) ++ l2, Limb x := fun x hx => by
      rcases List.mem_append.1 hx with h | h
      · exact limbs_rep j x h
      · exact HLim.out x h
    have val5 : natV (List.replicate j (0 : Int) ++ l2) = pw (32 * (j : Int)) * natV a := by
      rw [natV_append, natV_rep, List.length_replicate, hv.out]; omega
    obtain ⟨A5, c5, rfl, hs5, _⟩ := Sl.of_own hown5 lim5
    have hB5 : Below w.heap.size w w5 := hB3.trans ((hb4.trans hb5).mono hB3.size)
    have e0 : Hid (natV (List.replicate j (0 : Int) ++ l2) = pw (32 * (j : Int)) * natV a * pw ((0 : Nat) : Int)) := by
      rw [val5]; show _ = _ * 1; omega
    clear hown4 hb4 hz4 hown5 hb5 lim5 val5 HC
    have hm0 : 0 ≤ s % 32 := by omega
    go_loopw [7, 8] (fun v kk wr => ∃ (k : Nat) (A3 : Option Addr) (n3 c3 : Nat) (l3 : List Int), kk = .int .i64 (k : Int) ∧ (k : Int) ≤ s % 32 ∧ v = .slice A3 n3 c3 ∧ n3 ≤ 600 + k ∧ Sl wr wr.heap.size A3 n3 c3 l3 ∧ Below w.heap.size w wr ∧ Hid (natV l3 = pw (32 * (j : Int)) * natV a * pw (k : Int))) (fun _ kk _ => (s % 32 - intOf kk).toNat)
    case atStart => exact ⟨0, A5, _, c5, _, rfl, by omega, rfl, by omega, hs5, hB5, e0⟩
    case round =>
      obtain ⟨k, A3, n3, c3, l3, rfl, hk, rfl, hn3, hs3, hB, hv3⟩ := hrel
      clear hs5 hB5 e0
      by_cases hlt : (k : Int) < s % 32
      · have CT := Lib.hid (rtwice_any A3 n3 c3 l3 false wr hs3 (by omega))
        have hl3 := Lib.hid (natV_lt hs3.lim)
        have hl3b := Lib.hid hs3.len
        clear hs3
        go_wp2_with fail
        refine CT.out.mono ?_
        rintro e w6 ⟨A6, n6, c6, l6, rfl, hs6, hn6, hv6, fr6, hb6⟩
        have n6b : n6 ≤ n3 + 1 := by
          rw [← hs6.len]
          refine norm_len hs6.lim hn6 ?_
          have h1 := hl3.out
          rw [hl3b.out] at h1
          have h2 := pw32 n3
          have h3 := pw_pos (32 * (n3 : Int))
          rw [hv6]
          have : b2i false = 0 := rfl
          omega
        have e6 : Hid (natV l6 = pw (32 * (j : Int)) * natV a * pw ((k + 1 : Nat) : Int)) := by
          unfold Hid
          rw [hv6, hv3.out, show ((k + 1 : Nat) : Int) = (k : Int) + 1 by omega, pw_succ _ (by omega), show b2i false = 0 from rfl, Int.mul_left_comm]; omega
        have hB6 : Below w.heap.size w w6 := hB.trans (hb6.mono hB.size)
        clear hv6 hb6 hn6 fr6 CT hB
        go_wp2
        go_roundw
        case rel => exact ⟨k + 1, A6, n6, c6, l6, by go_num, by omega, rfl, by omega, hs6, hB6, e6⟩
        case measure => simp [intOf]; omega
      · have ek : (k : Int) = s % 32 := by omega
        have HT := Lib.hid (rtrim_any A3 n3 c3 l3 wr hs3 (by omega))
        clear hs3
        go_wp2_with fail
        refine HT.out.mono ?_
        rintro e w6 ⟨A6, n6, c6, l6, rfl, hs6, hn6, hv6, fr6, hb6⟩
        have fin := Lib.hid (NatOPost.mk (v := natV a * pw s) (w := w) hs6 hn6 (by rw [hv6, hv3.out, ek, shl_eq hj]) (fr6.mono hB.size) (hB.trans (hb6.mono hB.size)))
        clear hs6 hn6 hv6 fr6 hb6 hB ek
        go_wp2
        go_ret2
        exact fin.out
set_option maxHeartbeats 4000000 in
theorem rshr_ok (A : Option Addr) (n c : Nat) (a : List Int) (s : Int) (w : World) (h : Sl w w.heap.size A n c a) (hn : n ≤ 3000) (aP : natV a < pw 8192) (s0 : 0 ≤ s) (s1 : s ≤ 9223372036854775807) :
    Calls Tryd.prog 34 #[.slice A n c, .int .i64 s] w (NatBOPost (fun v o => v = natV a / pw s ∧ o = decide (natV a % pw s ≠ 0)) w) := by
  have HBig := Lib.hid (rbig_lt A n c a w h (by omega) aP)
  have HA := Lib.hid h
  have hle := Lib.hid (show ∀ m : List Int, (∀ x ∈ m, Limb x) → Norm m → natV m = natV a → m.length ≤ 256 from fun m h1 h2 h3 => norm_len h1 h2 (by rw [h3]; exact aP))
  clear aP
  clear h
  go_enter Tryd.func34, Tryd.ntmps34
  go_wp2_with fail
  refine HBig.out.mono ?_
  rintro e w1 ⟨rfl, hb1⟩
  have HT := Lib.hid (rtrim_any A n c a w1 (HA.out.on hb1) (by omega))
  clear HBig HA
  go_wp2_with fail
  refine HT.out.mono ?_
  rintro e w2 ⟨A2, n2, c2, l2, rfl, hs2, hn2, hv2, fr2, hb2⟩
  have n2b : n2 ≤ 256 := by have := hle.out l2 hs2.lim hn2 hv2; rw [hs2.len] at this; exact this
  have hB2 : Below w.heap.size w w2 := hb1.trans (hb2.mono hb1.size)
  have V0 := Lib.hid (natV_nonneg hs2.lim)
  have V1 : Hid (natV l2 < pw (32 * (n2 : Int))) := by rw [← hs2.len]; exact natV_lt hs2.lim
  have st0 := Lib.hid (shr_start (natV l2) s n2 s0)
  have hv2h := Lib.hid hv2
  clear hv2 HT hb1 hb2 fr2 hle
  have HS := Lib.hid hs2
  clear hs2 hn2
  go_wp2_with (at_make; refine wpList_mk rfl _ _ rfl w2.heap.size _ _ n2 rfl rfl rfl rfl (by omega) (Nat.le_refl _) ?_; intro w3 hown3 hb3 hz3)
  have hB3 : Below w.heap.size w w3 := hB2.trans (hb3.mono hB2.size)
  have HS3 := Lib.hid (HS.out.below hb3)
  go_loopw [9, 10] (fun lo kk wr => ∃ (k : Nat) (o : List Int) (lost : Bool), kk = .int .i64 (k : Int) ∧ (k : Int) ≤ 32 * (n2 : Int) ∧ lo = .bool lost ∧ wr.ownsRow w2.heap.size 66 1 (.slice (some ⟨w2.heap.size, 0, none⟩) n2 n2) n2 (o.map (Value.int .u32)) ∧ Below w2.heap.size w2 wr ∧ w2.heap.size < wr.heap.size ∧ ShrAt (natV l2) s n2 (k : Int) o lost) (fun _ kk _ => 32 * n2 - (intOf kk).toNat)
  case atStart => exact ⟨0, _, false, rfl, by omega, rfl, hown3, hb3, hz3, st0.out⟩
  case round =>
    obtain ⟨k, o, lost, rfl, hk, rfl, hown, hB, hz, hP⟩ := hrel
    clear hown3 hb3 hz3 st0 HS3 hB3
    have bn : (n2 : Int) ≤ 256 := by omega
    by_cases hlt : (k : Int) < 32 * (n2 : Int)
    · have CB := Lib.hid (bit_any A2 n2 c2 l2 (k : Int) wr ((HS.out.below hB).more hB.size) (by omega) (by omega))
      have hbv : Hid (bitV (natV l2) (k : Int) = decide (natV l2 / pw (k : Int) % 2 = 1)) := rfl
      have Hown := Lib.hid hown
      have hP := Lib.hid hP
      have k0 : (0 : Int) ≤ (k : Int) := by omega
      rcases Bool.eq_false_or_eq_true (bitV (natV l2) (k : Int)) with hb | hb
      · have hb1 : Hid (natV l2 / pw (k : Int) % 2 = 1) := by unfold Hid; rw [hbv.out] at hb; exact of_decide_eq_true hb
        rw [hb] at CB
        by_cases cs : (k : Int) < s
        · have fin := Lib.hid (shr_lost k0 hP.out hb1.out cs)
          have cs2 : ¬ s ≤ (k : Int) := by omega
          clear hown hb1 hbv hb
          go_wp2_with fail
          refine CB.out.mono ?_
          rintro e w' ⟨rfl, rfl⟩
          go_wp2
          go_roundw
          case rel => exact ⟨k + 1, o, true, by go_num, by omega, rfl, Hown.out, hB, hz, fin.out⟩
          case measure => simp [intOf]; omega
        · have cs2 : s ≤ (k : Int) := by omega
          have ql : (((k : Int) - s) / 32).toNat < n2 := by omega
          have cell := row_cell hown (((k : Int) - s) / 32).toNat ql
          have fz : World.frozen? _ ⟨w2.heap.size, (((k : Int) - s) / 32).toNat, none⟩ = false := hown.frozenAt _
          obtain ⟨b1, b2, b3⟩ := natV_setbit hP.out.lim (show 0 ≤ (k : Int) - s by omega) (by rw [hP.out.len]; exact ql) (shr_bit k0 s0 hP.out cs2)
          have fin := Lib.hid (shr_set k0 s0 hP.out hb1.out cs2 b2 b3)
          have Hset := Lib.hid (row_set hown (((k : Int) - s) / 32).toNat (digV o (((k : Int) - s) / 32).toNat + pw (((k : Int) - s) % 32)))
          have B1 := Lib.hid b1
          have d0 : 0 ≤ (k : Int) - s := by omega
          have d1 : (k : Int) - s ≤ 8192 := by omega
          obtain ⟨q, hq⟩ : ∃ q : Nat, (((k : Int) - s) / 32).toNat = q := ⟨_, rfl⟩
          have hq2 : ((k : Int) - s) / 32 = (q : Int) := by omega
          rw [hq] at cell fz b1 b2 Hset B1 fin
          rw [hq] at ql
          have ql2 : (q : Int) < (n2 : Int) := by omega
          have hr0 : 0 ≤ ((k : Int) - s) % 32 := by omega
          have hr1 : ((k : Int) - s) % 32 < 32 := by omega
          have hp : (2 : Int) ^ (((k : Int) - s) % 32).toNat = pw (((k : Int) - s) % 32) := pw_eq _
          have hpl : pw (((k : Int) - s) % 32) < 4294967296 := by
            have := pw_mono (a := ((k : Int) - s) % 32 + 1) (b := 32) (by omega) (by omega)
            have := pw_succ (((k : Int) - s) % 32) (by omega)
            rw [show pw 32 = 4294967296 from rfl] at *; omega
          have hp0 := pw_pos (((k : Int) - s) % 32)
          generalize pw (((k : Int) - s) % 32) = P at *
          generalize digV o q = z at *
          have HS := Lib.hid HS
          clear hown b1 b2 b3 hq hb1 hbv hb
          go_wp2_with fail
          refine CB.out.mono ?_
          rintro e w' ⟨rfl, rfl⟩
          go_wp2
          go_roundw
          case rel => exact ⟨k + 1, _, lost, by go_num, by omega, rfl, by rw [B1.out]; exact Hset.out, hB.setCell (Nat.le_refl _) _, by simpa [World.setCell] using hz, fin.out⟩
          case measure => simp [intOf]; omega
      · have hb0 : Hid (natV l2 / pw (k : Int) % 2 = 0) := by
          rw [hbv.out] at hb
          have := of_decide_eq_false hb
          unfold Hid; omega
        rw [hb] at CB
        have fin := Lib.hid (shr_no k0 hP.out hb0.out)
        clear hown hb0 hbv hb
        go_wp2_with fail
        refine CB.out.mono ?_
        rintro e w' ⟨rfl, rfl⟩
        go_wp2
        go_roundw
        case rel => exact ⟨k + 1, o, lost, by go_num, by omega, rfl, Hown.out, hB, hz, fin.out⟩
        case measure => simp [intOf]; omega
    · have ek : (k : Int) = 32 * (n2 : Int) := by omega
      rw [ek] at hP
      obtain ⟨e1, e2⟩ := shr_end V0.out V1.out hP
      have HT := Lib.hid (rtrim_any _ n2 n2 o wr (row_sl hown hP.lim) (by omega))
      have E1 := Lib.hid e1; have E2 := Lib.hid e2
      clear hown e1 e2 hP HS ek
      go_wp2_with fail
      refine HT.out.mono ?_
      rintro e w6 ⟨A6, n6, c6, l6, rfl, hs6, hn6, hv6, fr6, hb6⟩
      have fin : Hid (NatBOPost (fun v o => v = natV a / pw s ∧ o = decide (natV a % pw s ≠ 0)) w (.returned (.tuple #[.slice A6 n6 c6, .bool lost, .int .i64 0])) w6) :=
        ⟨A6, n6, c6, l6, lost, rfl, hs6, hn6, ⟨by rw [hv6, E1.out, hv2h.out], by rw [← hv2h.out]; exact E2.out⟩, hB2.trans ((hB.trans (hb6.mono hB.size)).mono hB2.size)⟩
      clear hs6 hn6 hv6 fr6 hb6 hB hB2 E1 E2
      go_wp2
      go_ret3
      exact fin.out
set_option maxHeartbeats 2000000 in
theorem rshl_all (A : Option Addr) (n c : Nat) (a : List Int) (s : Int) (w : World) (h : Sl w w.heap.size A n c a) (hn : n ≤ 3000) (smin : -9223372036854775808 ≤ s) (smax : s ≤ 9223372036854775807) :
    Calls Tryd.prog 32 #[.slice A n c, .int .i64 s] w (NatRPost (shlE (natV a) s) (shlV (natV a) s) w) := by
  unfold shlE shlV
  by_cases s0 : s < 0
  · rw [if_pos s0, if_pos s0]
    have fin := Lib.hid (NatRPost.nil (er := 1) (Below.refl w.heap.size w))
    go_enter Tryd.func32, Tryd.ntmps32
    go_wp2
    go_ret2
    exact fin.out
  · rw [if_neg s0, if_neg s0]
    have a0 := natV_nonneg h.lim
    by_cases hf : natV a * pw s < pw 8192
    · rw [if_pos hf, if_pos hf]
      by_cases s1 : s ≤ 8192
      · exact (rshl_ok A n c a s w h hn (by omega) s1 hf).mono fun _ _ z => z.r
      · have az : natV a = 0 := by
          rcases Int.lt_or_le 0 (natV a) with z | z
          · exfalso
            have m := pw_mono (a := 8192) (b := s) (by decide) (by omega)
            have := Int.mul_le_mul_of_nonneg_right (show 1 ≤ natV a by omega) (Int.le_of_lt (pw_pos s))
            generalize pw 8192 = P at *; omega
          · omega
        rw [az, Int.zero_mul]
        have HBig := Lib.hid (rbig_lt A n c a w h (by omega) (by rw [az]; exact pw_pos _))
        have HA := Lib.hid h
        have az := Lib.hid az
        clear h hf a0
        go_enter Tryd.func32, Tryd.ntmps32
        go_wp2_with fail
        refine HBig.out.mono ?_
        rintro e w1 ⟨rfl, hb1⟩
        have HT := Lib.hid (rtrim_any A n c a w1 (HA.out.on hb1) (by omega))
        go_wp2_with fail
        refine HT.out.mono ?_
        rintro e w2 ⟨A2, n2, c2, l2, rfl, h1, h2, h3, h4, h5⟩
        have ez : n2 = 0 := by
          have := norm_zero h1.lim h2 (by rw [h3]; exact az.out)
          rw [← h1.len, this]; rfl
        subst ez
        have fin := Lib.hid (NatRPost.nil (er := 0) (hb1.trans (h5.mono hb1.size)))
        clear h1 h2 h3 h4 h5 HT hb1
        go_wp2
        go_ret2
        exact fin.out
    · rw [if_neg hf, if_neg hf]
      by_cases aP : natV a < pw 8192
      · have HBig := Lib.hid (rbig_lt A n c a w h (by omega) aP)
        have HA := Lib.hid h
        have aP := Lib.hid aP
        have az : natV a ≠ 0 := fun z => hf (by rw [z, Int.zero_mul]; exact pw_pos _)
        have HF : Hid (∀ L : Int, LenIs (natV a) L → s ≤ 8192 → 8192 < L + s) := fun L hL hs => by
          rcases Int.lt_or_le 8192 (L + s) with c1 | c1
          · exact c1
          · exfalso; apply hf
            have q := Int.mul_lt_mul_of_pos_right hL.lt (pw_pos s)
            rw [← pw_add _ _ hL.n0 (by omega)] at q
            have := pw_mono (a := L + s) (b := 8192) (by have := hL.n0; omega) c1
            generalize pw 8192 = P at *; omega
        have HL8 : Hid (∀ L : Int, LenIs (natV a) L → L ≤ 8192) := fun L hL => by
          have h1 := hL.ge az
          have : pw L < pw 8193 := by
            have := aP.out
            have e : pw 8193 = 2 * pw 8192 := pw_succ 8192 (by decide)
            generalize pw 8192 = P at *; omega
          have := pw_inj_le (by decide) this
          omega
        have az := Lib.hid az
        clear h hf
        go_enter Tryd.func32, Tryd.ntmps32
        go_wp2_with fail
        refine HBig.out.mono ?_
        rintro e w1 ⟨rfl, hb1⟩
        have HT := Lib.hid (rtrim_any A n c a w1 (HA.out.on hb1) (by omega))
        go_wp2_with fail
        refine HT.out.mono ?_
        rintro e w2 ⟨A2, n2, c2, l2, rfl, h1, h2, h3, h4, h5⟩
        have n2b := norm_len (k := 256) h1.lim h2 (by rw [h3]; exact aP.out)
        rw [h1.len] at n2b
        have nz : ¬ n2 = 0 := fun z => by
          have e := List.eq_nil_of_length_eq_zero (h1.len.trans z)
          rw [e] at h3
          exact az.out (by rw [← h3]; rfl)
        have nz2 : ¬ (n2 : Int) = 0 := by omega
        have nz3 : ((n2 : Int) == 0) = false := by simpa using nz2
        have B2 := Lib.hid (hb1.trans (h5.mono hb1.size))
        have RL := Lib.hid (rlen_any A2 n2 c2 l2 w2 h1 (by omega))
        rw [h3] at RL
        by_cases hs : 8192 < s
        · have fin := Lib.hid (NatRPost.nil (er := 2) B2.out)
          clear h1 h2 h3 h4 h5 HT hb1 RL
          go_wp2
          go_ret2
          exact fin.out
        · have hs2 : s ≤ 8192 := by omega
          clear h1 h2 h3 h4 h5 HT hb1
          go_wp2_with fail
          refine RL.out.mono ?_
          rintro e w3 ⟨L, hL, rfl, hb3⟩
          have k3 := HF.out L hL hs2
          have k4 := HL8.out L hL
          have k5 := hL.n0
          have fin := Lib.hid (NatRPost.nil (er := 2) (B2.out.trans (hb3.mono B2.out.size)))
          clear hL hb3 RL
          have wk : IntKind.i64.wrap (L + s) = L + s := by rw [IntKind.wrap_i64]; omega
          go_wp2
          go_ret2
          exact fin.out
      · have HBig := Lib.hid (rbig_ge A n c a w h (by omega) (by omega))
        clear h hf aP
        go_enter Tryd.func32, Tryd.ntmps32
        go_wp2_with fail
        refine HBig.out.mono ?_
        rintro e w1 ⟨rfl, hb1⟩
        have fin := Lib.hid (NatRPost.nil (er := 2) hb1)
        clear hb1
        go_wp2
        go_ret2
        exact fin.out
/-- A right list, a bool, and an error. -/
def NatBQPost (er v : Int) (b : Bool) (w : World) (e : Ending) (w' : World) : Prop :=
  ∃ (A : Option Addr) (n c : Nat) (l : List Int), e = .returned (.tuple #[.slice A n c, .bool b, .int .i64 er]) ∧ Sl w' w'.heap.size A n c l ∧ Norm l ∧ natV l = v ∧ Below w.heap.size w w'
theorem NatBQPost.nil {er : Int} {b : Bool} {w w' : World} (hb : Below w.heap.size w w') : NatBQPost er 0 b w (.returned (.tuple #[.slice none 0 0, .bool b, .int .i64 er])) w' := ⟨none, 0, 0, [], rfl, Sl.nil_ _ _, norm_nil, rfl, hb⟩
set_option maxHeartbeats 2000000 in
theorem rshr_all (A : Option Addr) (n c : Nat) (a : List Int) (s : Int) (w : World) (h : Sl w w.heap.size A n c a) (hn : n ≤ 3000) (smin : -9223372036854775808 ≤ s) (smax : s ≤ 9223372036854775807) :
    Calls Tryd.prog 34 #[.slice A n c, .int .i64 s] w (NatBQPost (shrE (natV a) s) (shrV (natV a) s) (shrL (natV a) s) w) := by
  unfold shrE shrV shrL
  by_cases s0 : s < 0
  · rw [if_pos s0, if_pos s0, if_pos s0]
    have fin := Lib.hid (NatBQPost.nil (er := 1) (b := false) (Below.refl w.heap.size w))
    go_enter Tryd.func34, Tryd.ntmps34
    go_wp2
    go_ret3
    exact fin.out
  · rw [if_neg s0, if_neg s0, if_neg s0]
    by_cases ha : natV a < pw 8192
    · rw [if_pos ha, if_pos ha, if_pos ha]
      refine (rshr_ok A n c a s w h hn ha (by omega) smax).mono ?_
      rintro e w' ⟨A2, n2, c2, l2, o, rfl, h1, h2, ⟨h3, h4⟩, h5⟩
      rw [h4]
      exact ⟨A2, n2, c2, l2, rfl, h1, h2, h3, h5⟩
    · rw [if_neg ha, if_neg ha, if_neg ha]
      have HBig := Lib.hid (rbig_ge A n c a w h (by omega) (by omega))
      clear h ha
      go_enter Tryd.func34, Tryd.ntmps34
      go_wp2_with fail
      refine HBig.out.mono ?_
      rintro e w1 ⟨rfl, hb1⟩
      have fin := Lib.hid (NatBQPost.nil (er := 2) (b := false) hb1)
      clear hb1
      go_wp2
      go_ret3
      exact fin.out
end Go.Proofs.YtmjidpkddiinaaaDoor

/-
  The document's naturals: Pow: walked.
-/
namespace Go.Proofs.YtmjidpkddiinaaaDoor
open Go.RowKit Go.Shelf

theorem lit_sl (w : World) (y : Int) (hy : Limb y) : Sl (w.alloc (.cells #[.int .u32 y] 66)) (w.alloc (.cells #[.int .u32 y] 66)).heap.size (some ⟨w.heap.size, 0, none⟩) 1 1 [y] := by
  have HO := lit_own w [y] 1 rfl (by omega)
  obtain ⟨A, c, e, hs, _⟩ := Sl.of_own HO (fun x hx => by rw [List.mem_singleton.1 hx]; exact hy)
  cases e
  exact hs
theorem natV_one (y : Int) : natV [y] = y := by simp [natV]
set_option maxRecDepth 100000 in
set_option maxHeartbeats 4000000 in
theorem rpow_any (b n : Int) (hb0 : -9223372036854775808 ≤ b) (hb1 : b ≤ 9223372036854775807) (hn0 : -9223372036854775808 ≤ n) (hn1 : n ≤ 9223372036854775807) (w : World) :
    Calls Tryd.prog 36 #[.int .i64 b, .int .i64 n] w (NatRPost (bpowE b n) (bpowV b n) w) := by
  by_cases arg : b < 0 ∨ 1000000 < b ∨ n < 0
  · rw [(bpow_arg arg).1, (bpow_arg arg).2]
    have fin := Lib.hid (NatRPost.nil (er := 1) (Below.refl w.heap.size w))
    by_cases c1 : b < 0
    · go_enter Tryd.func36, Tryd.ntmps36
      go_wp2
      go_ret2
      exact fin.out
    · by_cases c2 : 1000000 < b
      · go_enter Tryd.func36, Tryd.ntmps36
        go_wp2
        go_ret2
        exact fin.out
      · have c3 : n < 0 := by omega
        clear arg
        go_enter Tryd.func36, Tryd.ntmps36
        go_wp2
        go_ret2
        exact fin.out
  · have A1 : ¬ b < 0 := by omega
    have A2 : ¬ 1000000 < b := by omega
    have A3 : ¬ n < 0 := by omega
    have p1 : (1 : Int) < pw 8192 := by have := pw_mono (a := 1) (b := 8192) (by decide) (by decide); rw [show pw 1 = 2 from rfl] at this; omega
    have S1 := Lib.hid (lit_sl w 1 ⟨by decide, by decide⟩)
    have B1 := Lib.hid (below_new w (.cells #[.int .u32 1] 66))
    have n1' : Hid (Norm [(1 : Int)]) := fun j hj e => by
      obtain rfl : j = 0 := by simpa using hj
      simp
    have fin1 : Hid (NatRPost 0 1 w (.returned (.tuple #[.slice (some ⟨w.heap.size, 0, none⟩) 1 1, .int .i64 0])) (w.alloc (.cells #[.int .u32 1] 66))) :=
      NatRPost.mk S1.out n1'.out (natV_one 1) (fun ad e => by cases e; exact Nat.le_refl _) B1.out
    by_cases c1 : b ≤ 1
    · by_cases c2 : b = 0 ∧ 0 < n
      · obtain ⟨rfl, c2⟩ := c2
        have k := bpow_ok arg (by rw [bpow_nil (by omega)]; exact pw_pos _)
        rw [k.1, k.2, bpow_nil (by omega)]
        have fin := Lib.hid (NatRPost.nil (er := 0) B1.out)
        clear k arg c1
        go_enter Tryd.func36, Tryd.ntmps36
        go_wp2
        go_ret2
        exact fin.out
      · have e1 : bpow b n = 1 := by
          rcases (show n = 0 ∨ b = 1 by omega) with rfl | rfl
          · exact bpow_zero b
          · exact bpow_one
        have k := bpow_ok arg (by rw [e1]; exact p1)
        rw [k.1, k.2, e1]
        clear k e1 arg p1
        rcases (show b = 1 ∨ (b = 0 ∧ n = 0) by omega) with rfl | ⟨rfl, rfl⟩
        · go_enter Tryd.func36, Tryd.ntmps36
          go_wp2
          go_ret2
          exact fin1.out
        · go_enter Tryd.func36, Tryd.ntmps36
          go_wp2
          go_ret2
          exact fin1.out
    · obtain ⟨E0, V0, hE⟩ : ∃ E V, bpowE b n = E ∧ bpowV b n = V := ⟨_, _, rfl, rfl⟩
      rw [hE.1, hE.2]
      have OK := Lib.hid (fun k => bpow_ok (b := b) (n := n) arg k)
      have NO := Lib.hid (fun k => bpow_no (b := b) (n := n) arg k)
      replace hE := Lib.hid hE
      have nL := Lib.hid (show bpow b n = ((b.toNat ^ n.toNat : Nat) : Int) from rfl)
      have mono : Hid (∀ i : Nat, i ≤ n.toNat → ((b.toNat ^ i : Nat) : Int) ≤ bpow b n) := fun i hi => by rw [nL.out]; exact Int.ofNat_le.2 (Nat.pow_le_pow_right (by omega) hi)
      have hbn : Hid ((b.toNat : Int) = b) := Int.toNat_of_nonneg (by omega)
      have b1 : ¬ b ≤ 1 := c1
      have bl : Limb b := ⟨by omega, by omega⟩
      have p1 := Lib.hid p1
      have BL := Lib.hid bl
      have bb : b < 4294967296 := bl.2
      clear arg c1 bl fin1
      go_enter Tryd.func36, Tryd.ntmps36
      go_wp2
      go_loopw [6, 7] (fun ov ii wx => ∃ (i : Nat) (A : Option Addr) (m c : Nat) (l : List Int), ii = .int .i64 (i : Int) ∧ ov = .slice A m c ∧ (i : Int) ≤ n ∧ m ≤ 256 ∧ Hid (Sl wx wx.heap.size A m c l ∧ Norm l ∧ natV l = ((b.toNat ^ i : Nat) : Int) ∧ natV l < pw 8192 ∧ Fresh w.heap.size A ∧ Below w.heap.size w wx)) (fun _ ii _ => n.toNat - (intOf ii).toNat)
      case atStart => exact ⟨0, _, 1, 1, [1], rfl, rfl, by omega, by omega, S1.out, n1'.out, by rw [natV_one, Nat.pow_zero]; rfl, by rw [natV_one]; exact p1.out, (fun ad e => by cases e; exact Nat.le_refl _), B1.out⟩
      case round =>
        obtain ⟨i, A, m, c, l, rfl, rfl, hi, mb, HI⟩ := hrel
        clear S1 B1 n1' p1
        by_cases hlt : (i : Int) < n
        · have i0 : (0 : Int) ≤ (i : Int) := by omega
          have TM := Lib.hid (rtimes_any A (some ⟨wr.heap.size, 0, none⟩) m 1 c 1 l [b] (wr.alloc (.cells #[.int .u32 b] 66)) (HI.out.1.alloc _) (lit_sl wr b BL.out) (by omega) (by omega))
          rw [natV_one] at TM
          have hb1 := Lib.hid (HI.out.2.2.2.2.2.trans ((below_new wr (.cells #[.int .u32 b] 66)).mono HI.out.2.2.2.2.2.size))
          have nx : Hid (natV l * b = ((b.toNat ^ (i + 1) : Nat) : Int)) := by
            unfold Hid; rw [HI.out.2.2.1, Nat.pow_succ, Int.natCast_mul, hbn.out]
          have mo := mono.out (i + 1) (by omega)
          have hlP := Lib.hid HI.out.2.2.2.1
          have b20 : Hid (b < pw 8192) := by
            have := pw_mono (a := 20) (b := 8192) (by decide) (by decide)
            rw [show pw 20 = 1048576 from rfl] at this
            unfold Hid; omega
          go_wp2_with fail
          refine TM.out.mono ?_
          rintro e w4 ⟨A4, n4, c4, l4, rfl, h1, h2, h3, h4, h5⟩
          have n4b := norm_len (k := 512) h1.lim h2 (by
            rw [h3]
            have e : pw (32 * ((512 : Nat) : Int)) = pw 8192 * pw 8192 := by rw [← pw_add _ _ (by decide) (by decide)]; rfl
            rw [e]
            have h0 := hlP.out
            have h9 := b20.out
            generalize pw 8192 = P at *
            exact Int.lt_of_le_of_lt (Int.mul_le_mul_of_nonneg_right (Int.le_of_lt h0) (by omega)) (Int.mul_lt_mul_of_pos_left h9 (by omega)))
          rw [h1.len] at n4b
          rw [nx.out] at h3
          have B4 := Lib.hid (hb1.out.trans (h5.mono hb1.out.size))
          have F4 : Hid (Fresh w.heap.size A4) := h4.mono hb1.out.size
          by_cases ov : ((b.toNat ^ (i + 1) : Nat) : Int) < pw 8192
          · have BG := Lib.hid (rbig_lt A4 n4 c4 l4 w4 h1 (by omega) (by rw [h3]; exact ov))
            have n4c := norm_len (k := 256) h1.lim h2 (by rw [h3]; exact ov)
            rw [h1.len] at n4c
            have S4 := Lib.hid (show Sl w4 w4.heap.size A4 n4 c4 l4 ∧ Norm l4 ∧ natV l4 = ((b.toNat ^ (i + 1) : Nat) : Int) ∧ natV l4 < pw 8192 from ⟨h1, h2, h3, by rw [h3]; exact ov⟩)
            clear h1 h2 h3 h4 h5 TM ov mo HI nx
            go_wp2_with fail
            refine BG.out.mono ?_
            rintro e w5 ⟨rfl, hb5⟩
            have S5 := Lib.hid (show Sl w5 w5.heap.size A4 n4 c4 l4 ∧ Norm l4 ∧ natV l4 = ((b.toNat ^ (i + 1) : Nat) : Int) ∧ natV l4 < pw 8192 ∧ Fresh w.heap.size A4 ∧ Below w.heap.size w w5 from ⟨S4.out.1.on hb5, S4.out.2.1, S4.out.2.2.1, S4.out.2.2.2, F4.out, B4.out.trans (hb5.mono B4.out.size)⟩)
            clear S4 hb5 BG
            go_wp2
            go_roundw
            case rel => exact ⟨i + 1, A4, n4, c4, l4, by go_num, rfl, by omega, by omega, S5.out⟩
            case measure => simp [intOf]; omega
          · have BG := Lib.hid (rbig_ge A4 n4 c4 l4 w4 h1 (by omega) (by rw [h3]; omega))
            have k := NO.out (by generalize pw 8192 = P at *; omega)
            have e1 : E0 = 2 ∧ V0 = 0 := ⟨by rw [← hE.out.1, k.1], by rw [← hE.out.2, k.2]⟩
            clear h1 h2 h3 h4 h5 TM ov mo HI nx k
            go_wp2_with fail
            refine BG.out.mono ?_
            rintro e w5 ⟨rfl, hb5⟩
            have fin : Hid (NatRPost E0 V0 w (.returned (.tuple #[.slice none 0 0, .int .i64 2])) w5) := by
              unfold Hid; rw [e1.1, e1.2]
              exact NatRPost.nil (B4.out.trans (hb5.mono B4.out.size))
            clear hb5 BG
            go_wp2
            go_ret2
            exact fin.out
        · have en : n.toNat = i := by omega
          have v := HI.out.2.2.1
          have k := OK.out (by rw [nL.out, en, ← v]; exact HI.out.2.2.2.1)
          have fin : Hid (NatRPost E0 V0 w (.returned (.tuple #[.slice A m c, .int .i64 0])) wr) := by
            unfold Hid; rw [← hE.out.1, ← hE.out.2, k.1, k.2, nL.out, en]
            exact NatRPost.mk HI.out.1 HI.out.2.1 v HI.out.2.2.2.2.1 HI.out.2.2.2.2.2
          clear k v
          go_wp2
          go_ret2
          exact fin.out
end Go.Proofs.YtmjidpkddiinaaaDoor

