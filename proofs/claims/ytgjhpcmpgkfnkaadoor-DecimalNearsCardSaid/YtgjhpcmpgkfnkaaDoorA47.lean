/-
  DecimalNears: walked.
-/
import Derived.Test.YtgjhpcmpgkfnkaaDoorA46
namespace Go.Proofs.YtgjhpcmpgkfnkaaDoor
open Go.RowKit Go.Shelf

theorem dec_agg (b : Bool) (m : List UInt8) (y : Int) : decV b m y = .agg #[.bool b, .string ⟨m.toArray⟩, .int .i64 y] := rfl
theorem mk_list (m : List UInt8) : (⟨m.toArray⟩ : ByteArray).data.toList = m := rfl
/-- What one way rounds to. -/
structure Way (b : Bool) (s : ByteArray) (x n way : Int) (q : ByteArray) (y : Int) : Prop where
  e : placeV b s.data.toList x n way = (.agg #[.bool b, .string q, .int .i64 y], 0)
  r : rightV q.data.toList y = true
  v : vD q.data.toList y = rN (10 ^ (-n + 100000).toNat) b way (vD s.data.toList x)
  p : q.data.toList = [] ∨ -n ≤ y
theorem way_of {b : Bool} {s : ByteArray} {x : Int} (h : rightV s.data.toList x = true) {n way : Int} (hw : wayV way = true) (n0 : -90000 ≤ n) (n1 : n ≤ 90000) : ∃ q y, Way b s x n way q y := by
  rcases place_val b h hw (show -100000 ≤ n by omega) (show n ≤ 100000 by omega) with ⟨m, y, e, r, v, p⟩ | ⟨_, e⟩
  · exact ⟨⟨m.toArray⟩, y, e, r, v, p⟩
  · exact absurd ⟨n0, n1⟩ e
theorem Way.again {b : Bool} {s : ByteArray} {x n way : Int} {q : ByteArray} {y : Int} (h : Way b s x n way q y) {way' : Int} (hw : wayV way' = true) (n0 : -90000 ≤ n) (n1 : n ≤ 90000) : placeV b q.data.toList y n way' = (.agg #[.bool b, .string q, .int .i64 y], 0) := by
  rw [place_again b h.r hw (by omega) (by omega) h.p, dec_agg, bytes_back]
theorem Way.two {b : Bool} {s : ByteArray} {x n way : Int} {q q4 q5 : ByteArray} {y y4 y5 : Int} (h : Way b s x n way q y) (h4 : Way b s x n 4 q4 y4) (h5 : Way b s x n 5 q5 y5) : (q4 = q ∧ y4 = y) ∨ (q5 = q ∧ y5 = y) := by
  rcases place_two h.r h4.r h5.r h.v h4.v h5.v with ⟨e1, e2⟩ | ⟨e1, e2⟩
  · exact Or.inl ⟨(bytes_eq e1).symm, e2.symm⟩
  · exact Or.inr ⟨(bytes_eq e1).symm, e2.symm⟩
theorem sig_near {b : Bool} {s : ByteArray} {x : Int} (h : rightV s.data.toList x = true) {k : Nat} (k1 : 1 ≤ k) : ∃ (c : Bool) (q : ByteArray) (y e : Int), sigV b s.data.toList x k 0 = (.agg #[.bool c, .string q, .int .i64 y], e) ∧ ((c = b ∧ q.size ≤ k ∧ e = 0) ∨ e = 2) := by
  rcases sig_short (b := b) h k1 (way := 0) (by decide) with ⟨m, y, e, hl⟩ | e
  · exact ⟨b, ⟨m.toArray⟩, y, 0, e, Or.inl ⟨rfl, by rw [bytes_size]; exact hl, rfl⟩⟩
  · exact ⟨false, ⟨#[]⟩, 0, 2, e, Or.inr rfl⟩
set_option maxRecDepth 100000 in
set_option maxHeartbeats 32000000 in
theorem near_not (b : Bool) (s : ByteArray) (x n : Int) (w : World) (T : Tabs w) (RA : Hid (∀ W : World, Calls Tryd.prog 12 #[.agg #[.bool b, .string s, .int .i64 x]] W fun e w' => e = .returned (.bool false) ∧ Below W.heap.size W w')) :
    Calls Tryd.prog 8 #[.agg #[.bool b, .string s, .int .i64 x], .int .i64 n] w fun e w' => e = .returned (.bool true) ∧ Below w.heap.size w w' := by
  have HT := Lib.hid T
  clear T
  obtain ⟨W, hW, ⟨e0, e1, e2⟩, hbW, sz⟩ := boxD1 w b s x
  have KS : Hid (∀ A Z : World, ((A.cell? ⟨w.heap.size, 0, none⟩ = some (.bool b) ∧ A.cell? ⟨w.heap.size, 1, none⟩ = some (.string s) ∧ A.cell? ⟨w.heap.size, 2, none⟩ = some (.int .i64 x)) ∧ ((w.heap.size < A.heap.size) ∧ Below w.heap.size w A)) → Below A.heap.size A Z → ((Z.cell? ⟨w.heap.size, 0, none⟩ = some (.bool b) ∧ Z.cell? ⟨w.heap.size, 1, none⟩ = some (.string s) ∧ Z.cell? ⟨w.heap.size, 2, none⟩ = some (.int .i64 x)) ∧ ((w.heap.size < Z.heap.size) ∧ Below w.heap.size w Z))) := by
    rintro A Z ⟨⟨h0, h1, h2⟩, l0, hb⟩ hx
    have hz := hx.size
    refine ⟨⟨(hx.cell (p := ⟨w.heap.size, 0, none⟩) l0).trans h0, (hx.cell (p := ⟨w.heap.size, 1, none⟩) l0).trans h1, (hx.cell (p := ⟨w.heap.size, 2, none⟩) l0).trans h2⟩, by omega, via hb hx⟩
  have ST : Hid ((W.cell? ⟨w.heap.size, 0, none⟩ = some (.bool b) ∧ W.cell? ⟨w.heap.size, 1, none⟩ = some (.string s) ∧ W.cell? ⟨w.heap.size, 2, none⟩ = some (.int .i64 x)) ∧ ((w.heap.size < W.heap.size) ∧ Below w.heap.size w W)) := ⟨⟨e0, e1, e2⟩, by omega, hbW⟩
  clear hbW sz e0 e1 e2
  obtain ⟨⟨z0, z1, z2⟩, zl, zB⟩ := ST.out
  clear zl zB
  go_enter Tryd.func8, Tryd.ntmps8
  go_wp2_with fail
  refine (shown_any _ (HT.out.below ST.out.2.2)).mono ?_
  rintro e w1x ⟨rfl, hb⟩
  have ST1 := Lib.hid (KS.out _ _ ST.out hb)
  clear hb
  clear z0 z1 z2
  obtain ⟨⟨z0, z1, z2⟩, zl, zB⟩ := ST1.out
  clear zl zB
  go_wp2_with fail
  refine (RA.out _).mono ?_
  rintro e w2x ⟨rfl, hb⟩
  have ST2 := Lib.hid (KS.out _ _ ST1.out hb)
  clear hb
  clear z0 z1 z2
  obtain ⟨⟨z0, z1, z2⟩, zl, zB⟩ := ST2.out
  clear zl zB
  go_wp2
  go_ret
  exact ⟨rfl, ST2.out.2.2⟩
set_option maxRecDepth 100000 in
set_option maxHeartbeats 32000000 in
theorem near_low (b : Bool) (s : ByteArray) (x n : Int) (w : World) (T : Tabs w) (hs : s.size ≤ 1000000) (hr : rightV s.data.toList x = true) (hn : n < -90000) :
    Calls Tryd.prog 8 #[.agg #[.bool b, .string s, .int .i64 x], .int .i64 n] w fun e w' => e = .returned (.bool true) ∧ Below w.heap.size w w' := by
  have HT := Lib.hid T
  clear T
  have RA := Lib.hid (fun W => right_any b s x W hs)
  rw [hr] at RA
  clear hr hs
  have g2 : ¬ 90000 < n := by omega
  clear g2
  obtain ⟨W, hW, ⟨e0, e1, e2⟩, hbW, sz⟩ := boxD1 w b s x
  have KS : Hid (∀ A Z : World, ((A.cell? ⟨w.heap.size, 0, none⟩ = some (.bool b) ∧ A.cell? ⟨w.heap.size, 1, none⟩ = some (.string s) ∧ A.cell? ⟨w.heap.size, 2, none⟩ = some (.int .i64 x)) ∧ ((w.heap.size < A.heap.size) ∧ Below w.heap.size w A)) → Below A.heap.size A Z → ((Z.cell? ⟨w.heap.size, 0, none⟩ = some (.bool b) ∧ Z.cell? ⟨w.heap.size, 1, none⟩ = some (.string s) ∧ Z.cell? ⟨w.heap.size, 2, none⟩ = some (.int .i64 x)) ∧ ((w.heap.size < Z.heap.size) ∧ Below w.heap.size w Z))) := by
    rintro A Z ⟨⟨h0, h1, h2⟩, l0, hb⟩ hx
    have hz := hx.size
    refine ⟨⟨(hx.cell (p := ⟨w.heap.size, 0, none⟩) l0).trans h0, (hx.cell (p := ⟨w.heap.size, 1, none⟩) l0).trans h1, (hx.cell (p := ⟨w.heap.size, 2, none⟩) l0).trans h2⟩, by omega, via hb hx⟩
  have ST : Hid ((W.cell? ⟨w.heap.size, 0, none⟩ = some (.bool b) ∧ W.cell? ⟨w.heap.size, 1, none⟩ = some (.string s) ∧ W.cell? ⟨w.heap.size, 2, none⟩ = some (.int .i64 x)) ∧ ((w.heap.size < W.heap.size) ∧ Below w.heap.size w W)) := ⟨⟨e0, e1, e2⟩, by omega, hbW⟩
  clear hbW sz e0 e1 e2
  obtain ⟨⟨z0, z1, z2⟩, zl, zB⟩ := ST.out
  clear zl zB
  go_enter Tryd.func8, Tryd.ntmps8
  go_wp2_with fail
  refine (shown_any _ (HT.out.below ST.out.2.2)).mono ?_
  rintro e w1x ⟨rfl, hb⟩
  have ST1 := Lib.hid (KS.out _ _ ST.out hb)
  clear hb
  clear z0 z1 z2
  obtain ⟨⟨z0, z1, z2⟩, zl, zB⟩ := ST1.out
  clear zl zB
  go_wp2_with fail
  refine (RA.out _).mono ?_
  rintro e w2x ⟨rfl, hb⟩
  have ST2 := Lib.hid (KS.out _ _ ST1.out hb)
  clear hb
  clear z0 z1 z2
  obtain ⟨⟨z0, z1, z2⟩, zl, zB⟩ := ST2.out
  clear zl zB
  go_wp2
  go_ret
  exact ⟨rfl, ST2.out.2.2⟩
set_option maxRecDepth 100000 in
set_option maxHeartbeats 32000000 in
theorem near_far (b : Bool) (s : ByteArray) (x n : Int) (w : World) (T : Tabs w) (hs : s.size ≤ 1000000) (hr : rightV s.data.toList x = true) (hn : 90000 < n) :
    Calls Tryd.prog 8 #[.agg #[.bool b, .string s, .int .i64 x], .int .i64 n] w fun e w' => e = .returned (.bool true) ∧ Below w.heap.size w w' := by
  have HT := Lib.hid T
  clear T
  have RA := Lib.hid (fun W => right_any b s x W hs)
  rw [hr] at RA
  clear hr hs
  have g2 : ¬ n < -90000 := by omega
  obtain ⟨W, hW, ⟨e0, e1, e2⟩, hbW, sz⟩ := boxD1 w b s x
  have KS : Hid (∀ A Z : World, ((A.cell? ⟨w.heap.size, 0, none⟩ = some (.bool b) ∧ A.cell? ⟨w.heap.size, 1, none⟩ = some (.string s) ∧ A.cell? ⟨w.heap.size, 2, none⟩ = some (.int .i64 x)) ∧ ((w.heap.size < A.heap.size) ∧ Below w.heap.size w A)) → Below A.heap.size A Z → ((Z.cell? ⟨w.heap.size, 0, none⟩ = some (.bool b) ∧ Z.cell? ⟨w.heap.size, 1, none⟩ = some (.string s) ∧ Z.cell? ⟨w.heap.size, 2, none⟩ = some (.int .i64 x)) ∧ ((w.heap.size < Z.heap.size) ∧ Below w.heap.size w Z))) := by
    rintro A Z ⟨⟨h0, h1, h2⟩, l0, hb⟩ hx
    have hz := hx.size
    refine ⟨⟨(hx.cell (p := ⟨w.heap.size, 0, none⟩) l0).trans h0, (hx.cell (p := ⟨w.heap.size, 1, none⟩) l0).trans h1, (hx.cell (p := ⟨w.heap.size, 2, none⟩) l0).trans h2⟩, by omega, via hb hx⟩
  have ST : Hid ((W.cell? ⟨w.heap.size, 0, none⟩ = some (.bool b) ∧ W.cell? ⟨w.heap.size, 1, none⟩ = some (.string s) ∧ W.cell? ⟨w.heap.size, 2, none⟩ = some (.int .i64 x)) ∧ ((w.heap.size < W.heap.size) ∧ Below w.heap.size w W)) := ⟨⟨e0, e1, e2⟩, by omega, hbW⟩
  clear hbW sz e0 e1 e2
  obtain ⟨⟨z0, z1, z2⟩, zl, zB⟩ := ST.out
  clear zl zB
  go_enter Tryd.func8, Tryd.ntmps8
  go_wp2_with fail
  refine (shown_any _ (HT.out.below ST.out.2.2)).mono ?_
  rintro e w1x ⟨rfl, hb⟩
  have ST1 := Lib.hid (KS.out _ _ ST.out hb)
  clear hb
  clear z0 z1 z2
  obtain ⟨⟨z0, z1, z2⟩, zl, zB⟩ := ST1.out
  clear zl zB
  go_wp2_with fail
  refine (RA.out _).mono ?_
  rintro e w2x ⟨rfl, hb⟩
  have ST2 := Lib.hid (KS.out _ _ ST1.out hb)
  clear hb
  clear z0 z1 z2
  obtain ⟨⟨z0, z1, z2⟩, zl, zB⟩ := ST2.out
  clear zl zB
  go_wp2
  go_ret
  exact ⟨rfl, ST2.out.2.2⟩
set_option maxRecDepth 100000 in
set_option maxHeartbeats 32000000 in
theorem near_main (b : Bool) (s : ByteArray) (x n : Int) (w : World) (T : Tabs w) (hs : s.size ≤ 1000000) (hr : rightV s.data.toList x = true) (n0 : ¬ n < -90000) (n1 : ¬ 90000 < n) :
    Calls Tryd.prog 8 #[.agg #[.bool b, .string s, .int .i64 x], .int .i64 n] w fun e w' => e = .returned (.bool true) ∧ Below w.heap.size w w' := by
  have HT := Lib.hid T
  clear T
  have SZ := bytes_size s
  have ln := rightV_len hr
  have RA := Lib.hid (fun W => right_any b s x W hs)
  rw [hr] at RA
  obtain ⟨q4, y4, H4⟩ := way_of (b := b) hr (n := n) (way := 4) (by decide) (by omega) (by omega)
  obtain ⟨q5, y5, H5⟩ := way_of (b := b) hr (n := n) (way := 5) (by decide) (by omega) (by omega)
  have PL := Lib.hid (fun W => place_any b s x n 4 W hs)
  have PH := Lib.hid (fun W => place_any b s x n 5 W hs)
  rw [H4.e] at PL; rw [H5.e] at PH
  have C1 := Lib.hid (fun W => cmp_any b q4 y4 b s x W (right_size H4.r) hs)
  have C2 := Lib.hid (fun W => cmp_any b s x b q5 y5 W hs (right_size H5.r))
  have k1 := place_low hr H4.r H4.v
  have k2 := place_high hr H5.r H5.v
  obtain ⟨m1, hm1⟩ : ∃ m, cmpV b q4.data.toList y4 b s.data.toList x = m := ⟨_, rfl⟩
  obtain ⟨m2, hm2⟩ : ∃ m, cmpV b s.data.toList x b q5.data.toList y5 = m := ⟨_, rfl⟩
  rw [hm1] at C1 k1; rw [hm2] at C2 k2
  have k1 : ¬ 0 < m1 := by omega
  have k2 : ¬ 0 < m2 := by omega
  have d1 : decide (0 < m1) = false := decide_eq_false k1
  have d2 : decide (0 < m2) = false := decide_eq_false k2
  have WAY : Hid (∀ way : Nat, way < 6 → ∃ (q : ByteArray) (y : Int), (∀ W, Calls Tryd.prog 20 #[.agg #[.bool b, .string s, .int .i64 x], .int .i64 n, .int .i64 (way : Int)] W (MakePost (.agg #[.bool b, .string q, .int .i64 y], 0) W)) ∧ (∀ W, Calls Tryd.prog 20 #[.agg #[.bool b, .string q, .int .i64 y], .int .i64 n, .int .i64 (5 - (way : Int))] W (MakePost (.agg #[.bool b, .string q, .int .i64 y], 0) W)) ∧ (∀ W, Calls Tryd.prog 12 #[.agg #[.bool b, .string q, .int .i64 y]] W fun e w' => e = .returned (.bool true) ∧ Below W.heap.size W w') ∧ ((q4 = q ∧ y4 = y) ∨ (q5 = q ∧ y5 = y ∧ ¬ q5.toList = q4.toList) ∨ (q5 = q ∧ y5 = y ∧ q5.toList = q4.toList ∧ ¬ y5 = y4)) ∧ (¬ 0 < q.size ∨ (0 < q.size ∧ ¬ y < -n))) := by
    intro way hway
    obtain ⟨q, y, H⟩ := way_of (b := b) hr (n := n) (way := (way : Int)) (by unfold wayV; exact decide_eq_true (by omega)) (by omega) (by omega)
    have H3 : (q4 = q ∧ y4 = y) ∨ (q5 = q ∧ y5 = y ∧ ¬ q5.toList = q4.toList) ∨ (q5 = q ∧ y5 = y ∧ q5.toList = q4.toList ∧ ¬ y5 = y4) := by
      rcases H.two H4 H5 with h | ⟨e1, e2⟩
      · exact Or.inl h
      · by_cases hq : q5.toList = q4.toList
        · by_cases hy : y5 = y4
          · have eq : q5 = q4 := bytes_eq (by rw [← Lib.toList_data, ← Lib.toList_data]; exact hq)
            exact Or.inl ⟨eq.symm.trans e1, hy.symm.trans e2⟩
          · exact Or.inr (Or.inr ⟨e1, e2, hq, hy⟩)
        · exact Or.inr (Or.inl ⟨e1, e2, hq⟩)
    refine ⟨q, y, fun W => ?_, fun W => ?_, fun W => ?_, H3, ?_⟩
    · have := place_any b s x n (way : Int) W hs; rw [H.e] at this; exact this
    · have := place_any b q y n (5 - (way : Int)) W (right_size H.r); rw [H.again (by unfold wayV; exact decide_eq_true (by omega)) (by omega) (by omega)] at this; exact this
    · have := right_any b q y W (right_size H.r); rw [H.r] at this; exact this
    · have z := bytes_size q
      rcases H.p with e | e
      · exact Or.inl (by rw [z, e]; simp)
      · by_cases e0 : 0 < q.size
        · exact Or.inr ⟨e0, by omega⟩
        · exact Or.inl e0
  have wn : IntKind.i64.wrap (-n) = -n := by rw [IntKind.wrap_i64]; omega
  have hq : ((s.size : Int)).tdiv 2 = ((s.size / 2 : Nat) : Int) := by rw [Int.tdiv_eq_ediv_of_nonneg (by omega)]; omega
  obtain ⟨h2, hh2⟩ : ∃ h, s.size / 2 = h := ⟨_, rfl⟩
  rw [hh2] at hq
  have wk0 : IntKind.i64.wrap (h2 : Int) = (h2 : Int) := by rw [IntKind.wrap_i64]; omega
  have wk : IntKind.i64.wrap (1 + (h2 : Int)) = ((h2 + 1 : Nat) : Int) := by rw [IntKind.wrap_i64]; omega
  obtain ⟨cz, qz, yz, ez, hz, HZ⟩ := sig_near (b := b) hr (k := h2 + 1) (by omega)
  have SG := Lib.hid (fun W => sig_any b s x ((h2 + 1 : Nat) : Int) 0 W hs)
  rw [hz] at SG
  have HZ := Lib.hid HZ
  clear hz hr H4 H5 hm1 hm2 SZ ln hs hh2
  obtain ⟨W, hW, ⟨e0, e1, e2⟩, hbW, sz⟩ := boxD1 w b s x
  have KS : Hid (∀ A Z : World, ((A.cell? ⟨w.heap.size, 0, none⟩ = some (.bool b) ∧ A.cell? ⟨w.heap.size, 1, none⟩ = some (.string s) ∧ A.cell? ⟨w.heap.size, 2, none⟩ = some (.int .i64 x)) ∧ ((w.heap.size < A.heap.size) ∧ Below w.heap.size w A)) → Below A.heap.size A Z → ((Z.cell? ⟨w.heap.size, 0, none⟩ = some (.bool b) ∧ Z.cell? ⟨w.heap.size, 1, none⟩ = some (.string s) ∧ Z.cell? ⟨w.heap.size, 2, none⟩ = some (.int .i64 x)) ∧ ((w.heap.size < Z.heap.size) ∧ Below w.heap.size w Z))) := by
    rintro A Z ⟨⟨h0, h1, h2⟩, l0, hb⟩ hx
    have hz := hx.size
    refine ⟨⟨(hx.cell (p := ⟨w.heap.size, 0, none⟩) l0).trans h0, (hx.cell (p := ⟨w.heap.size, 1, none⟩) l0).trans h1, (hx.cell (p := ⟨w.heap.size, 2, none⟩) l0).trans h2⟩, by omega, via hb hx⟩
  have ST : Hid ((W.cell? ⟨w.heap.size, 0, none⟩ = some (.bool b) ∧ W.cell? ⟨w.heap.size, 1, none⟩ = some (.string s) ∧ W.cell? ⟨w.heap.size, 2, none⟩ = some (.int .i64 x)) ∧ ((w.heap.size < W.heap.size) ∧ Below w.heap.size w W)) := ⟨⟨e0, e1, e2⟩, by omega, hbW⟩
  clear hbW sz e0 e1 e2
  obtain ⟨⟨z0, z1, z2⟩, zl, zB⟩ := ST.out
  clear zl zB
  go_enter Tryd.func8, Tryd.ntmps8
  go_wp2_with fail
  refine (shown_any _ (HT.out.below ST.out.2.2)).mono ?_
  rintro e w1x ⟨rfl, hb⟩
  have ST1 := Lib.hid (KS.out _ _ ST.out hb)
  clear hb
  clear z0 z1 z2
  obtain ⟨⟨z0, z1, z2⟩, zl, zB⟩ := ST1.out
  clear zl zB
  go_wp2_with fail
  refine (RA.out _).mono ?_
  rintro e w2x ⟨rfl, hb⟩
  have ST2 := Lib.hid (KS.out _ _ ST1.out hb)
  clear hb
  clear z0 z1 z2
  obtain ⟨⟨z0, z1, z2⟩, zl, zB⟩ := ST2.out
  clear zl zB
  go_wp2_with fail
  refine (PL.out _).mono ?_
  rintro e w3x ⟨rfl, hb⟩
  have ST3 := Lib.hid (KS.out _ _ ST2.out hb)
  clear hb
  clear z0 z1 z2
  obtain ⟨⟨z0, z1, z2⟩, zl, zB⟩ := ST3.out
  clear zl zB
  obtain ⟨v4, hal⟩ : ∃ X, w3x.alloc (.cells #[.bool b, .string q4, .int .i64 y4] 23) = X := ⟨_, rfl⟩
  have hbn := al1 w3x (.cells #[.bool b, .string q4, .int .i64 y4] 23)
  rw [hal] at hbn
  have nbx := BoxD.new w3x b q4 y4
  rw [hal] at nbx
  have nbz : w3x.heap.size < v4.heap.size := by rw [← hal]; simp
  have STn := KS.out _ _ ST3.out hbn
  clear hbn
  clear z0 z1 z2
  obtain ⟨p4, hp⟩ : ∃ b, w3x.heap.size = b := ⟨_, rfl⟩
  rw [hp] at nbx nbz
  obtain ⟨⟨z0, z1, z2⟩, l0, zB⟩ := STn
  have ST4 : Hid ((v4.cell? ⟨w.heap.size, 0, none⟩ = some (.bool b) ∧ v4.cell? ⟨w.heap.size, 1, none⟩ = some (.string s) ∧ v4.cell? ⟨w.heap.size, 2, none⟩ = some (.int .i64 x) ∧ v4.cell? ⟨p4, 0, none⟩ = some (.bool b) ∧ v4.cell? ⟨p4, 1, none⟩ = some (.string q4) ∧ v4.cell? ⟨p4, 2, none⟩ = some (.int .i64 y4)) ∧ ((w.heap.size < v4.heap.size ∧ p4 < v4.heap.size) ∧ Below w.heap.size w v4)) := ⟨⟨z0, z1, z2, nbx.b, nbx.s, nbx.x⟩, ⟨l0, nbz⟩, zB⟩
  clear nbx nbz zB z0 z1 z2 l0
  have KS4 : Hid (∀ A Z : World, ((A.cell? ⟨w.heap.size, 0, none⟩ = some (.bool b) ∧ A.cell? ⟨w.heap.size, 1, none⟩ = some (.string s) ∧ A.cell? ⟨w.heap.size, 2, none⟩ = some (.int .i64 x) ∧ A.cell? ⟨p4, 0, none⟩ = some (.bool b) ∧ A.cell? ⟨p4, 1, none⟩ = some (.string q4) ∧ A.cell? ⟨p4, 2, none⟩ = some (.int .i64 y4)) ∧ ((w.heap.size < A.heap.size ∧ p4 < A.heap.size) ∧ Below w.heap.size w A)) → Below A.heap.size A Z → ((Z.cell? ⟨w.heap.size, 0, none⟩ = some (.bool b) ∧ Z.cell? ⟨w.heap.size, 1, none⟩ = some (.string s) ∧ Z.cell? ⟨w.heap.size, 2, none⟩ = some (.int .i64 x) ∧ Z.cell? ⟨p4, 0, none⟩ = some (.bool b) ∧ Z.cell? ⟨p4, 1, none⟩ = some (.string q4) ∧ Z.cell? ⟨p4, 2, none⟩ = some (.int .i64 y4)) ∧ ((w.heap.size < Z.heap.size ∧ p4 < Z.heap.size) ∧ Below w.heap.size w Z))) := by
    rintro A Z ⟨⟨h0, h1, h2, h3, h4, h5⟩, ⟨l0, l1⟩, hb⟩ hx
    have hz := hx.size
    refine ⟨⟨(hx.cell (p := ⟨w.heap.size, 0, none⟩) l0).trans h0, (hx.cell (p := ⟨w.heap.size, 1, none⟩) l0).trans h1, (hx.cell (p := ⟨w.heap.size, 2, none⟩) l0).trans h2, (hx.cell (p := ⟨p4, 0, none⟩) l1).trans h3, (hx.cell (p := ⟨p4, 1, none⟩) l1).trans h4, (hx.cell (p := ⟨p4, 2, none⟩) l1).trans h5⟩, ⟨by omega, by omega⟩, via hb hx⟩
  obtain ⟨⟨z0, z1, z2, z3, z4, z5⟩, zl, zB⟩ := ST4.out
  clear zl zB
  go_wp2_with fail
  refine (PH.out _).mono ?_
  rintro e w5x ⟨rfl, hb⟩
  have ST5 := Lib.hid (KS4.out _ _ ST4.out hb)
  clear hb
  clear z0 z1 z2 z3 z4 z5
  obtain ⟨⟨z0, z1, z2, z3, z4, z5⟩, zl, zB⟩ := ST5.out
  clear zl zB
  clear hal hp
  obtain ⟨v6, hal⟩ : ∃ X, w5x.alloc (.cells #[.bool b, .string q5, .int .i64 y5] 23) = X := ⟨_, rfl⟩
  have hbn := al1 w5x (.cells #[.bool b, .string q5, .int .i64 y5] 23)
  rw [hal] at hbn
  have nbx := BoxD.new w5x b q5 y5
  rw [hal] at nbx
  have nbz : w5x.heap.size < v6.heap.size := by rw [← hal]; simp
  have STn := KS4.out _ _ ST5.out hbn
  clear hbn
  clear z0 z1 z2 z3 z4 z5
  obtain ⟨p6, hp⟩ : ∃ b, w5x.heap.size = b := ⟨_, rfl⟩
  rw [hp] at nbx nbz
  obtain ⟨⟨z0, z1, z2, z3, z4, z5⟩, ⟨l0, l1⟩, zB⟩ := STn
  have ST6 : Hid ((v6.cell? ⟨w.heap.size, 0, none⟩ = some (.bool b) ∧ v6.cell? ⟨w.heap.size, 1, none⟩ = some (.string s) ∧ v6.cell? ⟨w.heap.size, 2, none⟩ = some (.int .i64 x) ∧ v6.cell? ⟨p4, 0, none⟩ = some (.bool b) ∧ v6.cell? ⟨p4, 1, none⟩ = some (.string q4) ∧ v6.cell? ⟨p4, 2, none⟩ = some (.int .i64 y4) ∧ v6.cell? ⟨p6, 0, none⟩ = some (.bool b) ∧ v6.cell? ⟨p6, 1, none⟩ = some (.string q5) ∧ v6.cell? ⟨p6, 2, none⟩ = some (.int .i64 y5)) ∧ ((w.heap.size < v6.heap.size ∧ p4 < v6.heap.size ∧ p6 < v6.heap.size) ∧ Below w.heap.size w v6)) := ⟨⟨z0, z1, z2, z3, z4, z5, nbx.b, nbx.s, nbx.x⟩, ⟨l0, l1, nbz⟩, zB⟩
  clear nbx nbz zB z0 z1 z2 z3 z4 z5 l0 l1
  have KS6 : Hid (∀ A Z : World, ((A.cell? ⟨w.heap.size, 0, none⟩ = some (.bool b) ∧ A.cell? ⟨w.heap.size, 1, none⟩ = some (.string s) ∧ A.cell? ⟨w.heap.size, 2, none⟩ = some (.int .i64 x) ∧ A.cell? ⟨p4, 0, none⟩ = some (.bool b) ∧ A.cell? ⟨p4, 1, none⟩ = some (.string q4) ∧ A.cell? ⟨p4, 2, none⟩ = some (.int .i64 y4) ∧ A.cell? ⟨p6, 0, none⟩ = some (.bool b) ∧ A.cell? ⟨p6, 1, none⟩ = some (.string q5) ∧ A.cell? ⟨p6, 2, none⟩ = some (.int .i64 y5)) ∧ ((w.heap.size < A.heap.size ∧ p4 < A.heap.size ∧ p6 < A.heap.size) ∧ Below w.heap.size w A)) → Below A.heap.size A Z → ((Z.cell? ⟨w.heap.size, 0, none⟩ = some (.bool b) ∧ Z.cell? ⟨w.heap.size, 1, none⟩ = some (.string s) ∧ Z.cell? ⟨w.heap.size, 2, none⟩ = some (.int .i64 x) ∧ Z.cell? ⟨p4, 0, none⟩ = some (.bool b) ∧ Z.cell? ⟨p4, 1, none⟩ = some (.string q4) ∧ Z.cell? ⟨p4, 2, none⟩ = some (.int .i64 y4) ∧ Z.cell? ⟨p6, 0, none⟩ = some (.bool b) ∧ Z.cell? ⟨p6, 1, none⟩ = some (.string q5) ∧ Z.cell? ⟨p6, 2, none⟩ = some (.int .i64 y5)) ∧ ((w.heap.size < Z.heap.size ∧ p4 < Z.heap.size ∧ p6 < Z.heap.size) ∧ Below w.heap.size w Z))) := by
    rintro A Z ⟨⟨h0, h1, h2, h3, h4, h5, h6, h7, h8⟩, ⟨l0, l1, l2⟩, hb⟩ hx
    have hz := hx.size
    refine ⟨⟨(hx.cell (p := ⟨w.heap.size, 0, none⟩) l0).trans h0, (hx.cell (p := ⟨w.heap.size, 1, none⟩) l0).trans h1, (hx.cell (p := ⟨w.heap.size, 2, none⟩) l0).trans h2, (hx.cell (p := ⟨p4, 0, none⟩) l1).trans h3, (hx.cell (p := ⟨p4, 1, none⟩) l1).trans h4, (hx.cell (p := ⟨p4, 2, none⟩) l1).trans h5, (hx.cell (p := ⟨p6, 0, none⟩) l2).trans h6, (hx.cell (p := ⟨p6, 1, none⟩) l2).trans h7, (hx.cell (p := ⟨p6, 2, none⟩) l2).trans h8⟩, ⟨by omega, by omega, by omega⟩, via hb hx⟩
  obtain ⟨⟨z0, z1, z2, z3, z4, z5, z6, z7, z8⟩, zl, zB⟩ := ST6.out
  clear zl zB
  go_wp2_with fail
  clear hal hp
  refine (C1.out _).mono ?_
  rintro e w7x ⟨rfl, hb⟩
  have ST7 := Lib.hid (KS6.out _ _ ST6.out hb)
  clear hb
  clear z0 z1 z2 z3 z4 z5 z6 z7 z8
  obtain ⟨⟨z0, z1, z2, z3, z4, z5, z6, z7, z8⟩, zl, zB⟩ := ST7.out
  clear zl zB
  go_wp2_with fail
  refine (C2.out _).mono ?_
  rintro e w8x ⟨rfl, hb⟩
  have ST8 := Lib.hid (KS6.out _ _ ST7.out hb)
  clear hb
  clear z0 z1 z2 z3 z4 z5 z6 z7 z8
  obtain ⟨⟨z0, z1, z2, z3, z4, z5, z6, z7, z8⟩, zl, zB⟩ := ST8.out
  clear zl zB
  clear C1 C2
  obtain ⟨⟨z0, z1, z2, z3, z4, z5, z6, z7, z8⟩, zl, zB⟩ := ST8.out
  clear zl zB
  go_upto_block 0 with fail
  go_cut [11] (fun iv wx => iv = .int .i64 6 ∧ Hid ((wx.cell? ⟨w.heap.size, 0, none⟩ = some (.bool b) ∧ wx.cell? ⟨w.heap.size, 1, none⟩ = some (.string s) ∧ wx.cell? ⟨w.heap.size, 2, none⟩ = some (.int .i64 x) ∧ wx.cell? ⟨p4, 0, none⟩ = some (.bool b) ∧ wx.cell? ⟨p4, 1, none⟩ = some (.string q4) ∧ wx.cell? ⟨p4, 2, none⟩ = some (.int .i64 y4) ∧ wx.cell? ⟨p6, 0, none⟩ = some (.bool b) ∧ wx.cell? ⟨p6, 1, none⟩ = some (.string q5) ∧ wx.cell? ⟨p6, 2, none⟩ = some (.int .i64 y5)) ∧ ((w.heap.size < wx.heap.size ∧ p4 < wx.heap.size ∧ p6 < wx.heap.size) ∧ Below w.heap.size w wx)))
  case first => as_aux_lemma =>
    go_wp2_with fail
    go_loopw [11] (fun iv wx => ∃ k : Nat, iv = .int .i64 (k : Int) ∧ k ≤ 6 ∧ Hid ((wx.cell? ⟨w.heap.size, 0, none⟩ = some (.bool b) ∧ wx.cell? ⟨w.heap.size, 1, none⟩ = some (.string s) ∧ wx.cell? ⟨w.heap.size, 2, none⟩ = some (.int .i64 x) ∧ wx.cell? ⟨p4, 0, none⟩ = some (.bool b) ∧ wx.cell? ⟨p4, 1, none⟩ = some (.string q4) ∧ wx.cell? ⟨p4, 2, none⟩ = some (.int .i64 y4) ∧ wx.cell? ⟨p6, 0, none⟩ = some (.bool b) ∧ wx.cell? ⟨p6, 1, none⟩ = some (.string q5) ∧ wx.cell? ⟨p6, 2, none⟩ = some (.int .i64 y5)) ∧ ((w.heap.size < wx.heap.size ∧ p4 < wx.heap.size ∧ p6 < wx.heap.size) ∧ Below w.heap.size w wx))) (fun iv _ => 6 - (intOf iv).toNat)
    case atStart => exact ⟨0, rfl, Nat.zero_le _, ST8⟩
    case round =>
      clear z0 z1 z2 z3 z4 z5 z6 z7 z8
      obtain ⟨k, rfl, k6, HS⟩ := hrel
      by_cases hk : k < 6
      · have c1 : (k : Int) < 6 := by omega
        have kw : IntKind.i64.wrap ((k : Int) + 1) = ((k + 1 : Nat) : Int) := by rw [IntKind.wrap_i64]; omega
        have kw5 : IntKind.i64.wrap (5 - (k : Int)) = 5 - (k : Int) := by rw [IntKind.wrap_i64]; omega
        obtain ⟨qk, yk, P1, P2, R1, cas, np⟩ := WAY.out k hk
        have P1 := Lib.hid P1
        have P2 := Lib.hid P2
        have R1 := Lib.hid R1
        rcases np with np | ⟨np, np2⟩
        · rcases cas with cas | cas | cas
          · obtain ⟨rfl, rfl⟩ := cas
            obtain ⟨⟨z0, z1, z2, z3, z4, z5, z6, z7, z8⟩, zl, zB⟩ := HS.out
            clear zl zB
            go_wp2_with fail
            refine (P1.out _).mono ?_
            rintro e w41x ⟨rfl, hb⟩
            have ST41 := Lib.hid (KS6.out _ _ HS.out hb)
            clear hb
            clear z0 z1 z2 z3 z4 z5 z6 z7 z8
            obtain ⟨⟨z0, z1, z2, z3, z4, z5, z6, z7, z8⟩, zl, zB⟩ := ST41.out
            clear zl zB
            obtain ⟨v42, hal⟩ : ∃ X, w41x.alloc (.cells #[.bool b, .string q4, .int .i64 y4] 23) = X := ⟨_, rfl⟩
            have hbn := al1 w41x (.cells #[.bool b, .string q4, .int .i64 y4] 23)
            rw [hal] at hbn
            have nbx := BoxD.new w41x b q4 y4
            rw [hal] at nbx
            have nbz : w41x.heap.size < v42.heap.size := by rw [← hal]; simp
            have STn := KS6.out _ _ ST41.out hbn
            clear hbn
            clear z0 z1 z2 z3 z4 z5 z6 z7 z8
            obtain ⟨p42, hp⟩ : ∃ b, w41x.heap.size = b := ⟨_, rfl⟩
            rw [hp] at nbx nbz
            obtain ⟨⟨z0, z1, z2, z3, z4, z5, z6, z7, z8⟩, ⟨l0, l1, l2⟩, zB⟩ := STn
            have ST42 : Hid ((v42.cell? ⟨w.heap.size, 0, none⟩ = some (.bool b) ∧ v42.cell? ⟨w.heap.size, 1, none⟩ = some (.string s) ∧ v42.cell? ⟨w.heap.size, 2, none⟩ = some (.int .i64 x) ∧ v42.cell? ⟨p4, 0, none⟩ = some (.bool b) ∧ v42.cell? ⟨p4, 1, none⟩ = some (.string q4) ∧ v42.cell? ⟨p4, 2, none⟩ = some (.int .i64 y4) ∧ v42.cell? ⟨p6, 0, none⟩ = some (.bool b) ∧ v42.cell? ⟨p6, 1, none⟩ = some (.string q5) ∧ v42.cell? ⟨p6, 2, none⟩ = some (.int .i64 y5) ∧ v42.cell? ⟨p42, 0, none⟩ = some (.bool b) ∧ v42.cell? ⟨p42, 1, none⟩ = some (.string q4) ∧ v42.cell? ⟨p42, 2, none⟩ = some (.int .i64 y4)) ∧ ((w.heap.size < v42.heap.size ∧ p4 < v42.heap.size ∧ p6 < v42.heap.size ∧ p42 < v42.heap.size) ∧ Below w.heap.size w v42)) := ⟨⟨z0, z1, z2, z3, z4, z5, z6, z7, z8, nbx.b, nbx.s, nbx.x⟩, ⟨l0, l1, l2, nbz⟩, zB⟩
            clear nbx nbz zB z0 z1 z2 z3 z4 z5 z6 z7 z8 l0 l1 l2
            have KS42 : Hid (∀ A Z : World, ((A.cell? ⟨w.heap.size, 0, none⟩ = some (.bool b) ∧ A.cell? ⟨w.heap.size, 1, none⟩ = some (.string s) ∧ A.cell? ⟨w.heap.size, 2, none⟩ = some (.int .i64 x) ∧ A.cell? ⟨p4, 0, none⟩ = some (.bool b) ∧ A.cell? ⟨p4, 1, none⟩ = some (.string q4) ∧ A.cell? ⟨p4, 2, none⟩ = some (.int .i64 y4) ∧ A.cell? ⟨p6, 0, none⟩ = some (.bool b) ∧ A.cell? ⟨p6, 1, none⟩ = some (.string q5) ∧ A.cell? ⟨p6, 2, none⟩ = some (.int .i64 y5) ∧ A.cell? ⟨p42, 0, none⟩ = some (.bool b) ∧ A.cell? ⟨p42, 1, none⟩ = some (.string q4) ∧ A.cell? ⟨p42, 2, none⟩ = some (.int .i64 y4)) ∧ ((w.heap.size < A.heap.size ∧ p4 < A.heap.size ∧ p6 < A.heap.size ∧ p42 < A.heap.size) ∧ Below w.heap.size w A)) → Below A.heap.size A Z → ((Z.cell? ⟨w.heap.size, 0, none⟩ = some (.bool b) ∧ Z.cell? ⟨w.heap.size, 1, none⟩ = some (.string s) ∧ Z.cell? ⟨w.heap.size, 2, none⟩ = some (.int .i64 x) ∧ Z.cell? ⟨p4, 0, none⟩ = some (.bool b) ∧ Z.cell? ⟨p4, 1, none⟩ = some (.string q4) ∧ Z.cell? ⟨p4, 2, none⟩ = some (.int .i64 y4) ∧ Z.cell? ⟨p6, 0, none⟩ = some (.bool b) ∧ Z.cell? ⟨p6, 1, none⟩ = some (.string q5) ∧ Z.cell? ⟨p6, 2, none⟩ = some (.int .i64 y5) ∧ Z.cell? ⟨p42, 0, none⟩ = some (.bool b) ∧ Z.cell? ⟨p42, 1, none⟩ = some (.string q4) ∧ Z.cell? ⟨p42, 2, none⟩ = some (.int .i64 y4)) ∧ ((w.heap.size < Z.heap.size ∧ p4 < Z.heap.size ∧ p6 < Z.heap.size ∧ p42 < Z.heap.size) ∧ Below w.heap.size w Z))) := by
              rintro A Z ⟨⟨h0, h1, h2, h3, h4, h5, h6, h7, h8, h9, h10, h11⟩, ⟨l0, l1, l2, l3⟩, hb⟩ hx
              have hz := hx.size
              refine ⟨⟨(hx.cell (p := ⟨w.heap.size, 0, none⟩) l0).trans h0, (hx.cell (p := ⟨w.heap.size, 1, none⟩) l0).trans h1, (hx.cell (p := ⟨w.heap.size, 2, none⟩) l0).trans h2, (hx.cell (p := ⟨p4, 0, none⟩) l1).trans h3, (hx.cell (p := ⟨p4, 1, none⟩) l1).trans h4, (hx.cell (p := ⟨p4, 2, none⟩) l1).trans h5, (hx.cell (p := ⟨p6, 0, none⟩) l2).trans h6, (hx.cell (p := ⟨p6, 1, none⟩) l2).trans h7, (hx.cell (p := ⟨p6, 2, none⟩) l2).trans h8, (hx.cell (p := ⟨p42, 0, none⟩) l3).trans h9, (hx.cell (p := ⟨p42, 1, none⟩) l3).trans h10, (hx.cell (p := ⟨p42, 2, none⟩) l3).trans h11⟩, ⟨by omega, by omega, by omega, by omega⟩, via hb hx⟩
            obtain ⟨⟨z0, z1, z2, z3, z4, z5, z6, z7, z8, z9, z10, z11⟩, zl, zB⟩ := ST42.out
            clear zl zB
            go_wp2_with fail
            refine (P2.out _).mono ?_
            rintro e w43x ⟨rfl, hb⟩
            have ST43 := Lib.hid (KS42.out _ _ ST42.out hb)
            clear hb
            clear z0 z1 z2 z3 z4 z5 z6 z7 z8 z9 z10 z11
            obtain ⟨⟨z0, z1, z2, z3, z4, z5, z6, z7, z8, z9, z10, z11⟩, zl, zB⟩ := ST43.out
            clear zl zB
            clear hal hp
            obtain ⟨v44, hal⟩ : ∃ X, w43x.alloc (.cells #[.bool b, .string q4, .int .i64 y4] 23) = X := ⟨_, rfl⟩
            have hbn := al1 w43x (.cells #[.bool b, .string q4, .int .i64 y4] 23)
            rw [hal] at hbn
            have nbx := BoxD.new w43x b q4 y4
            rw [hal] at nbx
            have nbz : w43x.heap.size < v44.heap.size := by rw [← hal]; simp
            have STn := KS42.out _ _ ST43.out hbn
            clear hbn
            clear z0 z1 z2 z3 z4 z5 z6 z7 z8 z9 z10 z11
            obtain ⟨p44, hp⟩ : ∃ b, w43x.heap.size = b := ⟨_, rfl⟩
            rw [hp] at nbx nbz
            obtain ⟨⟨z0, z1, z2, z3, z4, z5, z6, z7, z8, z9, z10, z11⟩, ⟨l0, l1, l2, l3⟩, zB⟩ := STn
            have ST44 : Hid ((v44.cell? ⟨w.heap.size, 0, none⟩ = some (.bool b) ∧ v44.cell? ⟨w.heap.size, 1, none⟩ = some (.string s) ∧ v44.cell? ⟨w.heap.size, 2, none⟩ = some (.int .i64 x) ∧ v44.cell? ⟨p4, 0, none⟩ = some (.bool b) ∧ v44.cell? ⟨p4, 1, none⟩ = some (.string q4) ∧ v44.cell? ⟨p4, 2, none⟩ = some (.int .i64 y4) ∧ v44.cell? ⟨p6, 0, none⟩ = some (.bool b) ∧ v44.cell? ⟨p6, 1, none⟩ = some (.string q5) ∧ v44.cell? ⟨p6, 2, none⟩ = some (.int .i64 y5) ∧ v44.cell? ⟨p42, 0, none⟩ = some (.bool b) ∧ v44.cell? ⟨p42, 1, none⟩ = some (.string q4) ∧ v44.cell? ⟨p42, 2, none⟩ = some (.int .i64 y4) ∧ v44.cell? ⟨p44, 0, none⟩ = some (.bool b) ∧ v44.cell? ⟨p44, 1, none⟩ = some (.string q4) ∧ v44.cell? ⟨p44, 2, none⟩ = some (.int .i64 y4)) ∧ ((w.heap.size < v44.heap.size ∧ p4 < v44.heap.size ∧ p6 < v44.heap.size ∧ p42 < v44.heap.size ∧ p44 < v44.heap.size) ∧ Below w.heap.size w v44)) := ⟨⟨z0, z1, z2, z3, z4, z5, z6, z7, z8, z9, z10, z11, nbx.b, nbx.s, nbx.x⟩, ⟨l0, l1, l2, l3, nbz⟩, zB⟩
            clear nbx nbz zB z0 z1 z2 z3 z4 z5 z6 z7 z8 z9 z10 z11 l0 l1 l2 l3
            have KS44 : Hid (∀ A Z : World, ((A.cell? ⟨w.heap.size, 0, none⟩ = some (.bool b) ∧ A.cell? ⟨w.heap.size, 1, none⟩ = some (.string s) ∧ A.cell? ⟨w.heap.size, 2, none⟩ = some (.int .i64 x) ∧ A.cell? ⟨p4, 0, none⟩ = some (.bool b) ∧ A.cell? ⟨p4, 1, none⟩ = some (.string q4) ∧ A.cell? ⟨p4, 2, none⟩ = some (.int .i64 y4) ∧ A.cell? ⟨p6, 0, none⟩ = some (.bool b) ∧ A.cell? ⟨p6, 1, none⟩ = some (.string q5) ∧ A.cell? ⟨p6, 2, none⟩ = some (.int .i64 y5) ∧ A.cell? ⟨p42, 0, none⟩ = some (.bool b) ∧ A.cell? ⟨p42, 1, none⟩ = some (.string q4) ∧ A.cell? ⟨p42, 2, none⟩ = some (.int .i64 y4) ∧ A.cell? ⟨p44, 0, none⟩ = some (.bool b) ∧ A.cell? ⟨p44, 1, none⟩ = some (.string q4) ∧ A.cell? ⟨p44, 2, none⟩ = some (.int .i64 y4)) ∧ ((w.heap.size < A.heap.size ∧ p4 < A.heap.size ∧ p6 < A.heap.size ∧ p42 < A.heap.size ∧ p44 < A.heap.size) ∧ Below w.heap.size w A)) → Below A.heap.size A Z → ((Z.cell? ⟨w.heap.size, 0, none⟩ = some (.bool b) ∧ Z.cell? ⟨w.heap.size, 1, none⟩ = some (.string s) ∧ Z.cell? ⟨w.heap.size, 2, none⟩ = some (.int .i64 x) ∧ Z.cell? ⟨p4, 0, none⟩ = some (.bool b) ∧ Z.cell? ⟨p4, 1, none⟩ = some (.string q4) ∧ Z.cell? ⟨p4, 2, none⟩ = some (.int .i64 y4) ∧ Z.cell? ⟨p6, 0, none⟩ = some (.bool b) ∧ Z.cell? ⟨p6, 1, none⟩ = some (.string q5) ∧ Z.cell? ⟨p6, 2, none⟩ = some (.int .i64 y5) ∧ Z.cell? ⟨p42, 0, none⟩ = some (.bool b) ∧ Z.cell? ⟨p42, 1, none⟩ = some (.string q4) ∧ Z.cell? ⟨p42, 2, none⟩ = some (.int .i64 y4) ∧ Z.cell? ⟨p44, 0, none⟩ = some (.bool b) ∧ Z.cell? ⟨p44, 1, none⟩ = some (.string q4) ∧ Z.cell? ⟨p44, 2, none⟩ = some (.int .i64 y4)) ∧ ((w.heap.size < Z.heap.size ∧ p4 < Z.heap.size ∧ p6 < Z.heap.size ∧ p42 < Z.heap.size ∧ p44 < Z.heap.size) ∧ Below w.heap.size w Z))) := by
              rintro A Z ⟨⟨h0, h1, h2, h3, h4, h5, h6, h7, h8, h9, h10, h11, h12, h13, h14⟩, ⟨l0, l1, l2, l3, l4⟩, hb⟩ hx
              have hz := hx.size
              refine ⟨⟨(hx.cell (p := ⟨w.heap.size, 0, none⟩) l0).trans h0, (hx.cell (p := ⟨w.heap.size, 1, none⟩) l0).trans h1, (hx.cell (p := ⟨w.heap.size, 2, none⟩) l0).trans h2, (hx.cell (p := ⟨p4, 0, none⟩) l1).trans h3, (hx.cell (p := ⟨p4, 1, none⟩) l1).trans h4, (hx.cell (p := ⟨p4, 2, none⟩) l1).trans h5, (hx.cell (p := ⟨p6, 0, none⟩) l2).trans h6, (hx.cell (p := ⟨p6, 1, none⟩) l2).trans h7, (hx.cell (p := ⟨p6, 2, none⟩) l2).trans h8, (hx.cell (p := ⟨p42, 0, none⟩) l3).trans h9, (hx.cell (p := ⟨p42, 1, none⟩) l3).trans h10, (hx.cell (p := ⟨p42, 2, none⟩) l3).trans h11, (hx.cell (p := ⟨p44, 0, none⟩) l4).trans h12, (hx.cell (p := ⟨p44, 1, none⟩) l4).trans h13, (hx.cell (p := ⟨p44, 2, none⟩) l4).trans h14⟩, ⟨by omega, by omega, by omega, by omega, by omega⟩, via hb hx⟩
            obtain ⟨⟨z0, z1, z2, z3, z4, z5, z6, z7, z8, z9, z10, z11, z12, z13, z14⟩, zl, zB⟩ := ST44.out
            clear zl zB
            go_wp2_with fail
            refine (R1.out _).mono ?_
            rintro e w45x ⟨rfl, hb⟩
            have ST45 := Lib.hid (KS44.out _ _ ST44.out hb)
            clear hb
            clear z0 z1 z2 z3 z4 z5 z6 z7 z8 z9 z10 z11 z12 z13 z14
            obtain ⟨⟨z0, z1, z2, z3, z4, z5, z6, z7, z8, z9, z10, z11, z12, z13, z14⟩, zl, zB⟩ := ST45.out
            clear zl zB
            clear hal hp
            obtain ⟨l0, l1, l2, _⟩ := ST45.out.2.1
            have hB := ST45.out.2.2
            go_wp2
            all_goals
              go_roundw
              case rel => exact ⟨k + 1, by go_num, by omega, ⟨⟨z0, z1, z2, z3, z4, z5, z6, z7, z8⟩, ⟨l0, l1, l2⟩, hB⟩⟩
              case measure => simp [intOf]; omega
          · obtain ⟨rfl, rfl, hq⟩ := cas
            obtain ⟨⟨z0, z1, z2, z3, z4, z5, z6, z7, z8⟩, zl, zB⟩ := HS.out
            clear zl zB
            go_wp2_with fail
            refine (P1.out _).mono ?_
            rintro e w41x ⟨rfl, hb⟩
            have ST41 := Lib.hid (KS6.out _ _ HS.out hb)
            clear hb
            clear z0 z1 z2 z3 z4 z5 z6 z7 z8
            obtain ⟨⟨z0, z1, z2, z3, z4, z5, z6, z7, z8⟩, zl, zB⟩ := ST41.out
            clear zl zB
            obtain ⟨v42, hal⟩ : ∃ X, w41x.alloc (.cells #[.bool b, .string q5, .int .i64 y5] 23) = X := ⟨_, rfl⟩
            have hbn := al1 w41x (.cells #[.bool b, .string q5, .int .i64 y5] 23)
            rw [hal] at hbn
            have nbx := BoxD.new w41x b q5 y5
            rw [hal] at nbx
            have nbz : w41x.heap.size < v42.heap.size := by rw [← hal]; simp
            have STn := KS6.out _ _ ST41.out hbn
            clear hbn
            clear z0 z1 z2 z3 z4 z5 z6 z7 z8
            obtain ⟨p42, hp⟩ : ∃ b, w41x.heap.size = b := ⟨_, rfl⟩
            rw [hp] at nbx nbz
            obtain ⟨⟨z0, z1, z2, z3, z4, z5, z6, z7, z8⟩, ⟨l0, l1, l2⟩, zB⟩ := STn
            have ST42 : Hid ((v42.cell? ⟨w.heap.size, 0, none⟩ = some (.bool b) ∧ v42.cell? ⟨w.heap.size, 1, none⟩ = some (.string s) ∧ v42.cell? ⟨w.heap.size, 2, none⟩ = some (.int .i64 x) ∧ v42.cell? ⟨p4, 0, none⟩ = some (.bool b) ∧ v42.cell? ⟨p4, 1, none⟩ = some (.string q4) ∧ v42.cell? ⟨p4, 2, none⟩ = some (.int .i64 y4) ∧ v42.cell? ⟨p6, 0, none⟩ = some (.bool b) ∧ v42.cell? ⟨p6, 1, none⟩ = some (.string q5) ∧ v42.cell? ⟨p6, 2, none⟩ = some (.int .i64 y5) ∧ v42.cell? ⟨p42, 0, none⟩ = some (.bool b) ∧ v42.cell? ⟨p42, 1, none⟩ = some (.string q5) ∧ v42.cell? ⟨p42, 2, none⟩ = some (.int .i64 y5)) ∧ ((w.heap.size < v42.heap.size ∧ p4 < v42.heap.size ∧ p6 < v42.heap.size ∧ p42 < v42.heap.size) ∧ Below w.heap.size w v42)) := ⟨⟨z0, z1, z2, z3, z4, z5, z6, z7, z8, nbx.b, nbx.s, nbx.x⟩, ⟨l0, l1, l2, nbz⟩, zB⟩
            clear nbx nbz zB z0 z1 z2 z3 z4 z5 z6 z7 z8 l0 l1 l2
            have KS42 : Hid (∀ A Z : World, ((A.cell? ⟨w.heap.size, 0, none⟩ = some (.bool b) ∧ A.cell? ⟨w.heap.size, 1, none⟩ = some (.string s) ∧ A.cell? ⟨w.heap.size, 2, none⟩ = some (.int .i64 x) ∧ A.cell? ⟨p4, 0, none⟩ = some (.bool b) ∧ A.cell? ⟨p4, 1, none⟩ = some (.string q4) ∧ A.cell? ⟨p4, 2, none⟩ = some (.int .i64 y4) ∧ A.cell? ⟨p6, 0, none⟩ = some (.bool b) ∧ A.cell? ⟨p6, 1, none⟩ = some (.string q5) ∧ A.cell? ⟨p6, 2, none⟩ = some (.int .i64 y5) ∧ A.cell? ⟨p42, 0, none⟩ = some (.bool b) ∧ A.cell? ⟨p42, 1, none⟩ = some (.string q5) ∧ A.cell? ⟨p42, 2, none⟩ = some (.int .i64 y5)) ∧ ((w.heap.size < A.heap.size ∧ p4 < A.heap.size ∧ p6 < A.heap.size ∧ p42 < A.heap.size) ∧ Below w.heap.size w A)) → Below A.heap.size A Z → ((Z.cell? ⟨w.heap.size, 0, none⟩ = some (.bool b) ∧ Z.cell? ⟨w.heap.size, 1, none⟩ = some (.string s) ∧ Z.cell? ⟨w.heap.size, 2, none⟩ = some (.int .i64 x) ∧ Z.cell? ⟨p4, 0, none⟩ = some (.bool b) ∧ Z.cell? ⟨p4, 1, none⟩ = some (.string q4) ∧ Z.cell? ⟨p4, 2, none⟩ = some (.int .i64 y4) ∧ Z.cell? ⟨p6, 0, none⟩ = some (.bool b) ∧ Z.cell? ⟨p6, 1, none⟩ = some (.string q5) ∧ Z.cell? ⟨p6, 2, none⟩ = some (.int .i64 y5) ∧ Z.cell? ⟨p42, 0, none⟩ = some (.bool b) ∧ Z.cell? ⟨p42, 1, none⟩ = some (.string q5) ∧ Z.cell? ⟨p42, 2, none⟩ = some (.int .i64 y5)) ∧ ((w.heap.size < Z.heap.size ∧ p4 < Z.heap.size ∧ p6 < Z.heap.size ∧ p42 < Z.heap.size) ∧ Below w.heap.size w Z))) := by
              rintro A Z ⟨⟨h0, h1, h2, h3, h4, h5, h6, h7, h8, h9, h10, h11⟩, ⟨l0, l1, l2, l3⟩, hb⟩ hx
              have hz := hx.size
              refine ⟨⟨(hx.cell (p := ⟨w.heap.size, 0, none⟩) l0).trans h0, (hx.cell (p := ⟨w.heap.size, 1, none⟩) l0).trans h1, (hx.cell (p := ⟨w.heap.size, 2, none⟩) l0).trans h2, (hx.cell (p := ⟨p4, 0, none⟩) l1).trans h3, (hx.cell (p := ⟨p4, 1, none⟩) l1).trans h4, (hx.cell (p := ⟨p4, 2, none⟩) l1).trans h5, (hx.cell (p := ⟨p6, 0, none⟩) l2).trans h6, (hx.cell (p := ⟨p6, 1, none⟩) l2).trans h7, (hx.cell (p := ⟨p6, 2, none⟩) l2).trans h8, (hx.cell (p := ⟨p42, 0, none⟩) l3).trans h9, (hx.cell (p := ⟨p42, 1, none⟩) l3).trans h10, (hx.cell (p := ⟨p42, 2, none⟩) l3).trans h11⟩, ⟨by omega, by omega, by omega, by omega⟩, via hb hx⟩
            obtain ⟨⟨z0, z1, z2, z3, z4, z5, z6, z7, z8, z9, z10, z11⟩, zl, zB⟩ := ST42.out
            clear zl zB
            go_wp2_with fail
            refine (P2.out _).mono ?_
            rintro e w43x ⟨rfl, hb⟩
            have ST43 := Lib.hid (KS42.out _ _ ST42.out hb)
            clear hb
            clear z0 z1 z2 z3 z4 z5 z6 z7 z8 z9 z10 z11
            obtain ⟨⟨z0, z1, z2, z3, z4, z5, z6, z7, z8, z9, z10, z11⟩, zl, zB⟩ := ST43.out
            clear zl zB
            clear hal hp
            obtain ⟨v44, hal⟩ : ∃ X, w43x.alloc (.cells #[.bool b, .string q5, .int .i64 y5] 23) = X := ⟨_, rfl⟩
            have hbn := al1 w43x (.cells #[.bool b, .string q5, .int .i64 y5] 23)
            rw [hal] at hbn
            have nbx := BoxD.new w43x b q5 y5
            rw [hal] at nbx
            have nbz : w43x.heap.size < v44.heap.size := by rw [← hal]; simp
            have STn := KS42.out _ _ ST43.out hbn
            clear hbn
            clear z0 z1 z2 z3 z4 z5 z6 z7 z8 z9 z10 z11
            obtain ⟨p44, hp⟩ : ∃ b, w43x.heap.size = b := ⟨_, rfl⟩
            rw [hp] at nbx nbz
            obtain ⟨⟨z0, z1, z2, z3, z4, z5, z6, z7, z8, z9, z10, z11⟩, ⟨l0, l1, l2, l3⟩, zB⟩ := STn
            have ST44 : Hid ((v44.cell? ⟨w.heap.size, 0, none⟩ = some (.bool b) ∧ v44.cell? ⟨w.heap.size, 1, none⟩ = some (.string s) ∧ v44.cell? ⟨w.heap.size, 2, none⟩ = some (.int .i64 x) ∧ v44.cell? ⟨p4, 0, none⟩ = some (.bool b) ∧ v44.cell? ⟨p4, 1, none⟩ = some (.string q4) ∧ v44.cell? ⟨p4, 2, none⟩ = some (.int .i64 y4) ∧ v44.cell? ⟨p6, 0, none⟩ = some (.bool b) ∧ v44.cell? ⟨p6, 1, none⟩ = some (.string q5) ∧ v44.cell? ⟨p6, 2, none⟩ = some (.int .i64 y5) ∧ v44.cell? ⟨p42, 0, none⟩ = some (.bool b) ∧ v44.cell? ⟨p42, 1, none⟩ = some (.string q5) ∧ v44.cell? ⟨p42, 2, none⟩ = some (.int .i64 y5) ∧ v44.cell? ⟨p44, 0, none⟩ = some (.bool b) ∧ v44.cell? ⟨p44, 1, none⟩ = some (.string q5) ∧ v44.cell? ⟨p44, 2, none⟩ = some (.int .i64 y5)) ∧ ((w.heap.size < v44.heap.size ∧ p4 < v44.heap.size ∧ p6 < v44.heap.size ∧ p42 < v44.heap.size ∧ p44 < v44.heap.size) ∧ Below w.heap.size w v44)) := ⟨⟨z0, z1, z2, z3, z4, z5, z6, z7, z8, z9, z10, z11, nbx.b, nbx.s, nbx.x⟩, ⟨l0, l1, l2, l3, nbz⟩, zB⟩
            clear nbx nbz zB z0 z1 z2 z3 z4 z5 z6 z7 z8 z9 z10 z11 l0 l1 l2 l3
            have KS44 : Hid (∀ A Z : World, ((A.cell? ⟨w.heap.size, 0, none⟩ = some (.bool b) ∧ A.cell? ⟨w.heap.size, 1, none⟩ = some (.string s) ∧ A.cell? ⟨w.heap.size, 2, none⟩ = some (.int .i64 x) ∧ A.cell? ⟨p4, 0, none⟩ = some (.bool b) ∧ A.cell? ⟨p4, 1, none⟩ = some (.string q4) ∧ A.cell? ⟨p4, 2, none⟩ = some (.int .i64 y4) ∧ A.cell? ⟨p6, 0, none⟩ = some (.bool b) ∧ A.cell? ⟨p6, 1, none⟩ = some (.string q5) ∧ A.cell? ⟨p6, 2, none⟩ = some (.int .i64 y5) ∧ A.cell? ⟨p42, 0, none⟩ = some (.bool b) ∧ A.cell? ⟨p42, 1, none⟩ = some (.string q5) ∧ A.cell? ⟨p42, 2, none⟩ = some (.int .i64 y5) ∧ A.cell? ⟨p44, 0, none⟩ = some (.bool b) ∧ A.cell? ⟨p44, 1, none⟩ = some (.string q5) ∧ A.cell? ⟨p44, 2, none⟩ = some (.int .i64 y5)) ∧ ((w.heap.size < A.heap.size ∧ p4 < A.heap.size ∧ p6 < A.heap.size ∧ p42 < A.heap.size ∧ p44 < A.heap.size) ∧ Below w.heap.size w A)) → Below A.heap.size A Z → ((Z.cell? ⟨w.heap.size, 0, none⟩ = some (.bool b) ∧ Z.cell? ⟨w.heap.size, 1, none⟩ = some (.string s) ∧ Z.cell? ⟨w.heap.size, 2, none⟩ = some (.int .i64 x) ∧ Z.cell? ⟨p4, 0, none⟩ = some (.bool b) ∧ Z.cell? ⟨p4, 1, none⟩ = some (.string q4) ∧ Z.cell? ⟨p4, 2, none⟩ = some (.int .i64 y4) ∧ Z.cell? ⟨p6, 0, none⟩ = some (.bool b) ∧ Z.cell? ⟨p6, 1, none⟩ = some (.string q5) ∧ Z.cell? ⟨p6, 2, none⟩ = some (.int .i64 y5) ∧ Z.cell? ⟨p42, 0, none⟩ = some (.bool b) ∧ Z.cell? ⟨p42, 1, none⟩ = some (.string q5) ∧ Z.cell? ⟨p42, 2, none⟩ = some (.int .i64 y5) ∧ Z.cell? ⟨p44, 0, none⟩ = some (.bool b) ∧ Z.cell? ⟨p44, 1, none⟩ = some (.string q5) ∧ Z.cell? ⟨p44, 2, none⟩ = some (.int .i64 y5)) ∧ ((w.heap.size < Z.heap.size ∧ p4 < Z.heap.size ∧ p6 < Z.heap.size ∧ p42 < Z.heap.size ∧ p44 < Z.heap.size) ∧ Below w.heap.size w Z))) := by
              rintro A Z ⟨⟨h0, h1, h2, h3, h4, h5, h6, h7, h8, h9, h10, h11, h12, h13, h14⟩, ⟨l0, l1, l2, l3, l4⟩, hb⟩ hx
              have hz := hx.size
              refine ⟨⟨(hx.cell (p := ⟨w.heap.size, 0, none⟩) l0).trans h0, (hx.cell (p := ⟨w.heap.size, 1, none⟩) l0).trans h1, (hx.cell (p := ⟨w.heap.size, 2, none⟩) l0).trans h2, (hx.cell (p := ⟨p4, 0, none⟩) l1).trans h3, (hx.cell (p := ⟨p4, 1, none⟩) l1).trans h4, (hx.cell (p := ⟨p4, 2, none⟩) l1).trans h5, (hx.cell (p := ⟨p6, 0, none⟩) l2).trans h6, (hx.cell (p := ⟨p6, 1, none⟩) l2).trans h7, (hx.cell (p := ⟨p6, 2, none⟩) l2).trans h8, (hx.cell (p := ⟨p42, 0, none⟩) l3).trans h9, (hx.cell (p := ⟨p42, 1, none⟩) l3).trans h10, (hx.cell (p := ⟨p42, 2, none⟩) l3).trans h11, (hx.cell (p := ⟨p44, 0, none⟩) l4).trans h12, (hx.cell (p := ⟨p44, 1, none⟩) l4).trans h13, (hx.cell (p := ⟨p44, 2, none⟩) l4).trans h14⟩, ⟨by omega, by omega, by omega, by omega, by omega⟩, via hb hx⟩
            obtain ⟨⟨z0, z1, z2, z3, z4, z5, z6, z7, z8, z9, z10, z11, z12, z13, z14⟩, zl, zB⟩ := ST44.out
            clear zl zB
            go_wp2_with fail
            refine (R1.out _).mono ?_
            rintro e w45x ⟨rfl, hb⟩
            have ST45 := Lib.hid (KS44.out _ _ ST44.out hb)
            clear hb
            clear z0 z1 z2 z3 z4 z5 z6 z7 z8 z9 z10 z11 z12 z13 z14
            obtain ⟨⟨z0, z1, z2, z3, z4, z5, z6, z7, z8, z9, z10, z11, z12, z13, z14⟩, zl, zB⟩ := ST45.out
            clear zl zB
            clear hal hp
            obtain ⟨l0, l1, l2, _⟩ := ST45.out.2.1
            have hB := ST45.out.2.2
            go_wp2
            all_goals
              go_roundw
              case rel => exact ⟨k + 1, by go_num, by omega, ⟨⟨z0, z1, z2, z3, z4, z5, z6, z7, z8⟩, ⟨l0, l1, l2⟩, hB⟩⟩
              case measure => simp [intOf]; omega
          · obtain ⟨rfl, rfl, hq, hy⟩ := cas
            obtain ⟨⟨z0, z1, z2, z3, z4, z5, z6, z7, z8⟩, zl, zB⟩ := HS.out
            clear zl zB
            go_wp2_with fail
            refine (P1.out _).mono ?_
            rintro e w41x ⟨rfl, hb⟩
            have ST41 := Lib.hid (KS6.out _ _ HS.out hb)
            clear hb
            clear z0 z1 z2 z3 z4 z5 z6 z7 z8
            obtain ⟨⟨z0, z1, z2, z3, z4, z5, z6, z7, z8⟩, zl, zB⟩ := ST41.out
            clear zl zB
            obtain ⟨v42, hal⟩ : ∃ X, w41x.alloc (.cells #[.bool b, .string q5, .int .i64 y5] 23) = X := ⟨_, rfl⟩
            have hbn := al1 w41x (.cells #[.bool b, .string q5, .int .i64 y5] 23)
            rw [hal] at hbn
            have nbx := BoxD.new w41x b q5 y5
            rw [hal] at nbx
            have nbz : w41x.heap.size < v42.heap.size := by rw [← hal]; simp
            have STn := KS6.out _ _ ST41.out hbn
            clear hbn
            clear z0 z1 z2 z3 z4 z5 z6 z7 z8
            obtain ⟨p42, hp⟩ : ∃ b, w41x.heap.size = b := ⟨_, rfl⟩
            rw [hp] at nbx nbz
            obtain ⟨⟨z0, z1, z2, z3, z4, z5, z6, z7, z8⟩, ⟨l0, l1, l2⟩, zB⟩ := STn
            have ST42 : Hid ((v42.cell? ⟨w.heap.size, 0, none⟩ = some (.bool b) ∧ v42.cell? ⟨w.heap.size, 1, none⟩ = some (.string s) ∧ v42.cell? ⟨w.heap.size, 2, none⟩ = some (.int .i64 x) ∧ v42.cell? ⟨p4, 0, none⟩ = some (.bool b) ∧ v42.cell? ⟨p4, 1, none⟩ = some (.string q4) ∧ v42.cell? ⟨p4, 2, none⟩ = some (.int .i64 y4) ∧ v42.cell? ⟨p6, 0, none⟩ = some (.bool b) ∧ v42.cell? ⟨p6, 1, none⟩ = some (.string q5) ∧ v42.cell? ⟨p6, 2, none⟩ = some (.int .i64 y5) ∧ v42.cell? ⟨p42, 0, none⟩ = some (.bool b) ∧ v42.cell? ⟨p42, 1, none⟩ = some (.string q5) ∧ v42.cell? ⟨p42, 2, none⟩ = some (.int .i64 y5)) ∧ ((w.heap.size < v42.heap.size ∧ p4 < v42.heap.size ∧ p6 < v42.heap.size ∧ p42 < v42.heap.size) ∧ Below w.heap.size w v42)) := ⟨⟨z0, z1, z2, z3, z4, z5, z6, z7, z8, nbx.b, nbx.s, nbx.x⟩, ⟨l0, l1, l2, nbz⟩, zB⟩
            clear nbx nbz zB z0 z1 z2 z3 z4 z5 z6 z7 z8 l0 l1 l2
            have KS42 : Hid (∀ A Z : World, ((A.cell? ⟨w.heap.size, 0, none⟩ = some (.bool b) ∧ A.cell? ⟨w.heap.size, 1, none⟩ = some (.string s) ∧ A.cell? ⟨w.heap.size, 2, none⟩ = some (.int .i64 x) ∧ A.cell? ⟨p4, 0, none⟩ = some (.bool b) ∧ A.cell? ⟨p4, 1, none⟩ = some (.string q4) ∧ A.cell? ⟨p4, 2, none⟩ = some (.int .i64 y4) ∧ A.cell? ⟨p6, 0, none⟩ = some (.bool b) ∧ A.cell? ⟨p6, 1, none⟩ = some (.string q5) ∧ A.cell? ⟨p6, 2, none⟩ = some (.int .i64 y5) ∧ A.cell? ⟨p42, 0, none⟩ = some (.bool b) ∧ A.cell? ⟨p42, 1, none⟩ = some (.string q5) ∧ A.cell? ⟨p42, 2, none⟩ = some (.int .i64 y5)) ∧ ((w.heap.size < A.heap.size ∧ p4 < A.heap.size ∧ p6 < A.heap.size ∧ p42 < A.heap.size) ∧ Below w.heap.size w A)) → Below A.heap.size A Z → ((Z.cell? ⟨w.heap.size, 0, none⟩ = some (.bool b) ∧ Z.cell? ⟨w.heap.size, 1, none⟩ = some (.string s) ∧ Z.cell? ⟨w.heap.size, 2, none⟩ = some (.int .i64 x) ∧ Z.cell? ⟨p4, 0, none⟩ = some (.bool b) ∧ Z.cell? ⟨p4, 1, none⟩ = some (.string q4) ∧ Z.cell? ⟨p4, 2, none⟩ = some (.int .i64 y4) ∧ Z.cell? ⟨p6, 0, none⟩ = some (.bool b) ∧ Z.cell? ⟨p6, 1, none⟩ = some (.string q5) ∧ Z.cell? ⟨p6, 2, none⟩ = some (.int .i64 y5) ∧ Z.cell? ⟨p42, 0, none⟩ = some (.bool b) ∧ Z.cell? ⟨p42, 1, none⟩ = some (.string q5) ∧ Z.cell? ⟨p42, 2, none⟩ = some (.int .i64 y5)) ∧ ((w.heap.size < Z.heap.size ∧ p4 < Z.heap.size ∧ p6 < Z.heap.size ∧ p42 < Z.heap.size) ∧ Below w.heap.size w Z))) := by
              rintro A Z ⟨⟨h0, h1, h2, h3, h4, h5, h6, h7, h8, h9, h10, h11⟩, ⟨l0, l1, l2, l3⟩, hb⟩ hx
              have hz := hx.size
              refine ⟨⟨(hx.cell (p := ⟨w.heap.size, 0, none⟩) l0).trans h0, (hx.cell (p := ⟨w.heap.size, 1, none⟩) l0).trans h1, (hx.cell (p := ⟨w.heap.size, 2, none⟩) l0).trans h2, (hx.cell (p := ⟨p4, 0, none⟩) l1).trans h3, (hx.cell (p := ⟨p4, 1, none⟩) l1).trans h4, (hx.cell (p := ⟨p4, 2, none⟩) l1).trans h5, (hx.cell (p := ⟨p6, 0, none⟩) l2).trans h6, (hx.cell (p := ⟨p6, 1, none⟩) l2).trans h7, (hx.cell (p := ⟨p6, 2, none⟩) l2).trans h8, (hx.cell (p := ⟨p42, 0, none⟩) l3).trans h9, (hx.cell (p := ⟨p42, 1, none⟩) l3).trans h10, (hx.cell (p := ⟨p42, 2, none⟩) l3).trans h11⟩, ⟨by omega, by omega, by omega, by omega⟩, via hb hx⟩
            obtain ⟨⟨z0, z1, z2, z3, z4, z5, z6, z7, z8, z9, z10, z11⟩, zl, zB⟩ := ST42.out
            clear zl zB
            go_wp2_with fail
            refine (P2.out _).mono ?_
            rintro e w43x ⟨rfl, hb⟩
            have ST43 := Lib.hid (KS42.out _ _ ST42.out hb)
            clear hb
            clear z0 z1 z2 z3 z4 z5 z6 z7 z8 z9 z10 z11
            obtain ⟨⟨z0, z1, z2, z3, z4, z5, z6, z7, z8, z9, z10, z11⟩, zl, zB⟩ := ST43.out
            clear zl zB
            clear hal hp
            obtain ⟨v44, hal⟩ : ∃ X, w43x.alloc (.cells #[.bool b, .string q5, .int .i64 y5] 23) = X := ⟨_, rfl⟩
            have hbn := al1 w43x (.cells #[.bool b, .string q5, .int .i64 y5] 23)
            rw [hal] at hbn
            have nbx := BoxD.new w43x b q5 y5
            rw [hal] at nbx
            have nbz : w43x.heap.size < v44.heap.size := by rw [← hal]; simp
            have STn := KS42.out _ _ ST43.out hbn
            clear hbn
            clear z0 z1 z2 z3 z4 z5 z6 z7 z8 z9 z10 z11
            obtain ⟨p44, hp⟩ : ∃ b, w43x.heap.size = b := ⟨_, rfl⟩
            rw [hp] at nbx nbz
            obtain ⟨⟨z0, z1, z2, z3, z4, z5, z6, z7, z8, z9, z10, z11⟩, ⟨l0, l1, l2, l3⟩, zB⟩ := STn
            have ST44 : Hid ((v44.cell? ⟨w.heap.size, 0, none⟩ = some (.bool b) ∧ v44.cell? ⟨w.heap.size, 1, none⟩ = some (.string s) ∧ v44.cell? ⟨w.heap.size, 2, none⟩ = some (.int .i64 x) ∧ v44.cell? ⟨p4, 0, none⟩ = some (.bool b) ∧ v44.cell? ⟨p4, 1, none⟩ = some (.string q4) ∧ v44.cell? ⟨p4, 2, none⟩ = some (.int .i64 y4) ∧ v44.cell? ⟨p6, 0, none⟩ = some (.bool b) ∧ v44.cell? ⟨p6, 1, none⟩ = some (.string q5) ∧ v44.cell? ⟨p6, 2, none⟩ = some (.int .i64 y5) ∧ v44.cell? ⟨p42, 0, none⟩ = some (.bool b) ∧ v44.cell? ⟨p42, 1, none⟩ = some (.string q5) ∧ v44.cell? ⟨p42, 2, none⟩ = some (.int .i64 y5) ∧ v44.cell? ⟨p44, 0, none⟩ = some (.bool b) ∧ v44.cell? ⟨p44, 1, none⟩ = some (.string q5) ∧ v44.cell? ⟨p44, 2, none⟩ = some (.int .i64 y5)) ∧ ((w.heap.size < v44.heap.size ∧ p4 < v44.heap.size ∧ p6 < v44.heap.size ∧ p42 < v44.heap.size ∧ p44 < v44.heap.size) ∧ Below w.heap.size w v44)) := ⟨⟨z0, z1, z2, z3, z4, z5, z6, z7, z8, z9, z10, z11, nbx.b, nbx.s, nbx.x⟩, ⟨l0, l1, l2, l3, nbz⟩, zB⟩
            clear nbx nbz zB z0 z1 z2 z3 z4 z5 z6 z7 z8 z9 z10 z11 l0 l1 l2 l3
            have KS44 : Hid (∀ A Z : World, ((A.cell? ⟨w.heap.size, 0, none⟩ = some (.bool b) ∧ A.cell? ⟨w.heap.size, 1, none⟩ = some (.string s) ∧ A.cell? ⟨w.heap.size, 2, none⟩ = some (.int .i64 x) ∧ A.cell? ⟨p4, 0, none⟩ = some (.bool b) ∧ A.cell? ⟨p4, 1, none⟩ = some (.string q4) ∧ A.cell? ⟨p4, 2, none⟩ = some (.int .i64 y4) ∧ A.cell? ⟨p6, 0, none⟩ = some (.bool b) ∧ A.cell? ⟨p6, 1, none⟩ = some (.string q5) ∧ A.cell? ⟨p6, 2, none⟩ = some (.int .i64 y5) ∧ A.cell? ⟨p42, 0, none⟩ = some (.bool b) ∧ A.cell? ⟨p42, 1, none⟩ = some (.string q5) ∧ A.cell? ⟨p42, 2, none⟩ = some (.int .i64 y5) ∧ A.cell? ⟨p44, 0, none⟩ = some (.bool b) ∧ A.cell? ⟨p44, 1, none⟩ = some (.string q5) ∧ A.cell? ⟨p44, 2, none⟩ = some (.int .i64 y5)) ∧ ((w.heap.size < A.heap.size ∧ p4 < A.heap.size ∧ p6 < A.heap.size ∧ p42 < A.heap.size ∧ p44 < A.heap.size) ∧ Below w.heap.size w A)) → Below A.heap.size A Z → ((Z.cell? ⟨w.heap.size, 0, none⟩ = some (.bool b) ∧ Z.cell? ⟨w.heap.size, 1, none⟩ = some (.string s) ∧ Z.cell? ⟨w.heap.size, 2, none⟩ = some (.int .i64 x) ∧ Z.cell? ⟨p4, 0, none⟩ = some (.bool b) ∧ Z.cell? ⟨p4, 1, none⟩ = some (.string q4) ∧ Z.cell? ⟨p4, 2, none⟩ = some (.int .i64 y4) ∧ Z.cell? ⟨p6, 0, none⟩ = some (.bool b) ∧ Z.cell? ⟨p6, 1, none⟩ = some (.string q5) ∧ Z.cell? ⟨p6, 2, none⟩ = some (.int .i64 y5) ∧ Z.cell? ⟨p42, 0, none⟩ = some (.bool b) ∧ Z.cell? ⟨p42, 1, none⟩ = some (.string q5) ∧ Z.cell? ⟨p42, 2, none⟩ = some (.int .i64 y5) ∧ Z.cell? ⟨p44, 0, none⟩ = some (.bool b) ∧ Z.cell? ⟨p44, 1, none⟩ = some (.string q5) ∧ Z.cell? ⟨p44, 2, none⟩ = some (.int .i64 y5)) ∧ ((w.heap.size < Z.heap.size ∧ p4 < Z.heap.size ∧ p6 < Z.heap.size ∧ p42 < Z.heap.size ∧ p44 < Z.heap.size) ∧ Below w.heap.size w Z))) := by
              rintro A Z ⟨⟨h0, h1, h2, h3, h4, h5, h6, h7, h8, h9, h10, h11, h12, h13, h14⟩, ⟨l0, l1, l2, l3, l4⟩, hb⟩ hx
              have hz := hx.size
              refine ⟨⟨(hx.cell (p := ⟨w.heap.size, 0, none⟩) l0).trans h0, (hx.cell (p := ⟨w.heap.size, 1, none⟩) l0).trans h1, (hx.cell (p := ⟨w.heap.size, 2, none⟩) l0).trans h2, (hx.cell (p := ⟨p4, 0, none⟩) l1).trans h3, (hx.cell (p := ⟨p4, 1, none⟩) l1).trans h4, (hx.cell (p := ⟨p4, 2, none⟩) l1).trans h5, (hx.cell (p := ⟨p6, 0, none⟩) l2).trans h6, (hx.cell (p := ⟨p6, 1, none⟩) l2).trans h7, (hx.cell (p := ⟨p6, 2, none⟩) l2).trans h8, (hx.cell (p := ⟨p42, 0, none⟩) l3).trans h9, (hx.cell (p := ⟨p42, 1, none⟩) l3).trans h10, (hx.cell (p := ⟨p42, 2, none⟩) l3).trans h11, (hx.cell (p := ⟨p44, 0, none⟩) l4).trans h12, (hx.cell (p := ⟨p44, 1, none⟩) l4).trans h13, (hx.cell (p := ⟨p44, 2, none⟩) l4).trans h14⟩, ⟨by omega, by omega, by omega, by omega, by omega⟩, via hb hx⟩
            obtain ⟨⟨z0, z1, z2, z3, z4, z5, z6, z7, z8, z9, z10, z11, z12, z13, z14⟩, zl, zB⟩ := ST44.out
            clear zl zB
            go_wp2_with fail
            refine (R1.out _).mono ?_
            rintro e w45x ⟨rfl, hb⟩
            have ST45 := Lib.hid (KS44.out _ _ ST44.out hb)
            clear hb
            clear z0 z1 z2 z3 z4 z5 z6 z7 z8 z9 z10 z11 z12 z13 z14
            obtain ⟨⟨z0, z1, z2, z3, z4, z5, z6, z7, z8, z9, z10, z11, z12, z13, z14⟩, zl, zB⟩ := ST45.out
            clear zl zB
            clear hal hp
            obtain ⟨l0, l1, l2, _⟩ := ST45.out.2.1
            have hB := ST45.out.2.2
            go_wp2
            all_goals
              go_roundw
              case rel => exact ⟨k + 1, by go_num, by omega, ⟨⟨z0, z1, z2, z3, z4, z5, z6, z7, z8⟩, ⟨l0, l1, l2⟩, hB⟩⟩
              case measure => simp [intOf]; omega
        · rcases cas with cas | cas | cas
          · obtain ⟨rfl, rfl⟩ := cas
            obtain ⟨⟨z0, z1, z2, z3, z4, z5, z6, z7, z8⟩, zl, zB⟩ := HS.out
            clear zl zB
            go_wp2_with fail
            refine (P1.out _).mono ?_
            rintro e w41x ⟨rfl, hb⟩
            have ST41 := Lib.hid (KS6.out _ _ HS.out hb)
            clear hb
            clear z0 z1 z2 z3 z4 z5 z6 z7 z8
            obtain ⟨⟨z0, z1, z2, z3, z4, z5, z6, z7, z8⟩, zl, zB⟩ := ST41.out
            clear zl zB
            obtain ⟨v42, hal⟩ : ∃ X, w41x.alloc (.cells #[.bool b, .string q4, .int .i64 y4] 23) = X := ⟨_, rfl⟩
            have hbn := al1 w41x (.cells #[.bool b, .string q4, .int .i64 y4] 23)
            rw [hal] at hbn
            have nbx := BoxD.new w41x b q4 y4
            rw [hal] at nbx
            have nbz : w41x.heap.size < v42.heap.size := by rw [← hal]; simp
            have STn := KS6.out _ _ ST41.out hbn
            clear hbn
            clear z0 z1 z2 z3 z4 z5 z6 z7 z8
            obtain ⟨p42, hp⟩ : ∃ b, w41x.heap.size = b := ⟨_, rfl⟩
            rw [hp] at nbx nbz
            obtain ⟨⟨z0, z1, z2, z3, z4, z5, z6, z7, z8⟩, ⟨l0, l1, l2⟩, zB⟩ := STn
            have ST42 : Hid ((v42.cell? ⟨w.heap.size, 0, none⟩ = some (.bool b) ∧ v42.cell? ⟨w.heap.size, 1, none⟩ = some (.string s) ∧ v42.cell? ⟨w.heap.size, 2, none⟩ = some (.int .i64 x) ∧ v42.cell? ⟨p4, 0, none⟩ = some (.bool b) ∧ v42.cell? ⟨p4, 1, none⟩ = some (.string q4) ∧ v42.cell? ⟨p4, 2, none⟩ = some (.int .i64 y4) ∧ v42.cell? ⟨p6, 0, none⟩ = some (.bool b) ∧ v42.cell? ⟨p6, 1, none⟩ = some (.string q5) ∧ v42.cell? ⟨p6, 2, none⟩ = some (.int .i64 y5) ∧ v42.cell? ⟨p42, 0, none⟩ = some (.bool b) ∧ v42.cell? ⟨p42, 1, none⟩ = some (.string q4) ∧ v42.cell? ⟨p42, 2, none⟩ = some (.int .i64 y4)) ∧ ((w.heap.size < v42.heap.size ∧ p4 < v42.heap.size ∧ p6 < v42.heap.size ∧ p42 < v42.heap.size) ∧ Below w.heap.size w v42)) := ⟨⟨z0, z1, z2, z3, z4, z5, z6, z7, z8, nbx.b, nbx.s, nbx.x⟩, ⟨l0, l1, l2, nbz⟩, zB⟩
            clear nbx nbz zB z0 z1 z2 z3 z4 z5 z6 z7 z8 l0 l1 l2
            have KS42 : Hid (∀ A Z : World, ((A.cell? ⟨w.heap.size, 0, none⟩ = some (.bool b) ∧ A.cell? ⟨w.heap.size, 1, none⟩ = some (.string s) ∧ A.cell? ⟨w.heap.size, 2, none⟩ = some (.int .i64 x) ∧ A.cell? ⟨p4, 0, none⟩ = some (.bool b) ∧ A.cell? ⟨p4, 1, none⟩ = some (.string q4) ∧ A.cell? ⟨p4, 2, none⟩ = some (.int .i64 y4) ∧ A.cell? ⟨p6, 0, none⟩ = some (.bool b) ∧ A.cell? ⟨p6, 1, none⟩ = some (.string q5) ∧ A.cell? ⟨p6, 2, none⟩ = some (.int .i64 y5) ∧ A.cell? ⟨p42, 0, none⟩ = some (.bool b) ∧ A.cell? ⟨p42, 1, none⟩ = some (.string q4) ∧ A.cell? ⟨p42, 2, none⟩ = some (.int .i64 y4)) ∧ ((w.heap.size < A.heap.size ∧ p4 < A.heap.size ∧ p6 < A.heap.size ∧ p42 < A.heap.size) ∧ Below w.heap.size w A)) → Below A.heap.size A Z → ((Z.cell? ⟨w.heap.size, 0, none⟩ = some (.bool b) ∧ Z.cell? ⟨w.heap.size, 1, none⟩ = some (.string s) ∧ Z.cell? ⟨w.heap.size, 2, none⟩ = some (.int .i64 x) ∧ Z.cell? ⟨p4, 0, none⟩ = some (.bool b) ∧ Z.cell? ⟨p4, 1, none⟩ = some (.string q4) ∧ Z.cell? ⟨p4, 2, none⟩ = some (.int .i64 y4) ∧ Z.cell? ⟨p6, 0, none⟩ = some (.bool b) ∧ Z.cell? ⟨p6, 1, none⟩ = some (.string q5) ∧ Z.cell? ⟨p6, 2, none⟩ = some (.int .i64 y5) ∧ Z.cell? ⟨p42, 0, none⟩ = some (.bool b) ∧ Z.cell? ⟨p42, 1, none⟩ = some (.string q4) ∧ Z.cell? ⟨p42, 2, none⟩ = some (.int .i64 y4)) ∧ ((w.heap.size < Z.heap.size ∧ p4 < Z.heap.size ∧ p6 < Z.heap.size ∧ p42 < Z.heap.size) ∧ Below w.heap.size w Z))) := by
              rintro A Z ⟨⟨h0, h1, h2, h3, h4, h5, h6, h7, h8, h9, h10, h11⟩, ⟨l0, l1, l2, l3⟩, hb⟩ hx
              have hz := hx.size
              refine ⟨⟨(hx.cell (p := ⟨w.heap.size, 0, none⟩) l0).trans h0, (hx.cell (p := ⟨w.heap.size, 1, none⟩) l0).trans h1, (hx.cell (p := ⟨w.heap.size, 2, none⟩) l0).trans h2, (hx.cell (p := ⟨p4, 0, none⟩) l1).trans h3, (hx.cell (p := ⟨p4, 1, none⟩) l1).trans h4, (hx.cell (p := ⟨p4, 2, none⟩) l1).trans h5, (hx.cell (p := ⟨p6, 0, none⟩) l2).trans h6, (hx.cell (p := ⟨p6, 1, none⟩) l2).trans h7, (hx.cell (p := ⟨p6, 2, none⟩) l2).trans h8, (hx.cell (p := ⟨p42, 0, none⟩) l3).trans h9, (hx.cell (p := ⟨p42, 1, none⟩) l3).trans h10, (hx.cell (p := ⟨p42, 2, none⟩) l3).trans h11⟩, ⟨by omega, by omega, by omega, by omega⟩, via hb hx⟩
            obtain ⟨⟨z0, z1, z2, z3, z4, z5, z6, z7, z8, z9, z10, z11⟩, zl, zB⟩ := ST42.out
            clear zl zB
            go_wp2_with fail
            refine (P2.out _).mono ?_
            rintro e w43x ⟨rfl, hb⟩
            have ST43 := Lib.hid (KS42.out _ _ ST42.out hb)
            clear hb
            clear z0 z1 z2 z3 z4 z5 z6 z7 z8 z9 z10 z11
            obtain ⟨⟨z0, z1, z2, z3, z4, z5, z6, z7, z8, z9, z10, z11⟩, zl, zB⟩ := ST43.out
            clear zl zB
            clear hal hp
            obtain ⟨v44, hal⟩ : ∃ X, w43x.alloc (.cells #[.bool b, .string q4, .int .i64 y4] 23) = X := ⟨_, rfl⟩
            have hbn := al1 w43x (.cells #[.bool b, .string q4, .int .i64 y4] 23)
            rw [hal] at hbn
            have nbx := BoxD.new w43x b q4 y4
            rw [hal] at nbx
            have nbz : w43x.heap.size < v44.heap.size := by rw [← hal]; simp
            have STn := KS42.out _ _ ST43.out hbn
            clear hbn
            clear z0 z1 z2 z3 z4 z5 z6 z7 z8 z9 z10 z11
            obtain ⟨p44, hp⟩ : ∃ b, w43x.heap.size = b := ⟨_, rfl⟩
            rw [hp] at nbx nbz
            obtain ⟨⟨z0, z1, z2, z3, z4, z5, z6, z7, z8, z9, z10, z11⟩, ⟨l0, l1, l2, l3⟩, zB⟩ := STn
            have ST44 : Hid ((v44.cell? ⟨w.heap.size, 0, none⟩ = some (.bool b) ∧ v44.cell? ⟨w.heap.size, 1, none⟩ = some (.string s) ∧ v44.cell? ⟨w.heap.size, 2, none⟩ = some (.int .i64 x) ∧ v44.cell? ⟨p4, 0, none⟩ = some (.bool b) ∧ v44.cell? ⟨p4, 1, none⟩ = some (.string q4) ∧ v44.cell? ⟨p4, 2, none⟩ = some (.int .i64 y4) ∧ v44.cell? ⟨p6, 0, none⟩ = some (.bool b) ∧ v44.cell? ⟨p6, 1, none⟩ = some (.string q5) ∧ v44.cell? ⟨p6, 2, none⟩ = some (.int .i64 y5) ∧ v44.cell? ⟨p42, 0, none⟩ = some (.bool b) ∧ v44.cell? ⟨p42, 1, none⟩ = some (.string q4) ∧ v44.cell? ⟨p42, 2, none⟩ = some (.int .i64 y4) ∧ v44.cell? ⟨p44, 0, none⟩ = some (.bool b) ∧ v44.cell? ⟨p44, 1, none⟩ = some (.string q4) ∧ v44.cell? ⟨p44, 2, none⟩ = some (.int .i64 y4)) ∧ ((w.heap.size < v44.heap.size ∧ p4 < v44.heap.size ∧ p6 < v44.heap.size ∧ p42 < v44.heap.size ∧ p44 < v44.heap.size) ∧ Below w.heap.size w v44)) := ⟨⟨z0, z1, z2, z3, z4, z5, z6, z7, z8, z9, z10, z11, nbx.b, nbx.s, nbx.x⟩, ⟨l0, l1, l2, l3, nbz⟩, zB⟩
            clear nbx nbz zB z0 z1 z2 z3 z4 z5 z6 z7 z8 z9 z10 z11 l0 l1 l2 l3
            have KS44 : Hid (∀ A Z : World, ((A.cell? ⟨w.heap.size, 0, none⟩ = some (.bool b) ∧ A.cell? ⟨w.heap.size, 1, none⟩ = some (.string s) ∧ A.cell? ⟨w.heap.size, 2, none⟩ = some (.int .i64 x) ∧ A.cell? ⟨p4, 0, none⟩ = some (.bool b) ∧ A.cell? ⟨p4, 1, none⟩ = some (.string q4) ∧ A.cell? ⟨p4, 2, none⟩ = some (.int .i64 y4) ∧ A.cell? ⟨p6, 0, none⟩ = some (.bool b) ∧ A.cell? ⟨p6, 1, none⟩ = some (.string q5) ∧ A.cell? ⟨p6, 2, none⟩ = some (.int .i64 y5) ∧ A.cell? ⟨p42, 0, none⟩ = some (.bool b) ∧ A.cell? ⟨p42, 1, none⟩ = some (.string q4) ∧ A.cell? ⟨p42, 2, none⟩ = some (.int .i64 y4) ∧ A.cell? ⟨p44, 0, none⟩ = some (.bool b) ∧ A.cell? ⟨p44, 1, none⟩ = some (.string q4) ∧ A.cell? ⟨p44, 2, none⟩ = some (.int .i64 y4)) ∧ ((w.heap.size < A.heap.size ∧ p4 < A.heap.size ∧ p6 < A.heap.size ∧ p42 < A.heap.size ∧ p44 < A.heap.size) ∧ Below w.heap.size w A)) → Below A.heap.size A Z → ((Z.cell? ⟨w.heap.size, 0, none⟩ = some (.bool b) ∧ Z.cell? ⟨w.heap.size, 1, none⟩ = some (.string s) ∧ Z.cell? ⟨w.heap.size, 2, none⟩ = some (.int .i64 x) ∧ Z.cell? ⟨p4, 0, none⟩ = some (.bool b) ∧ Z.cell? ⟨p4, 1, none⟩ = some (.string q4) ∧ Z.cell? ⟨p4, 2, none⟩ = some (.int .i64 y4) ∧ Z.cell? ⟨p6, 0, none⟩ = some (.bool b) ∧ Z.cell? ⟨p6, 1, none⟩ = some (.string q5) ∧ Z.cell? ⟨p6, 2, none⟩ = some (.int .i64 y5) ∧ Z.cell? ⟨p42, 0, none⟩ = some (.bool b) ∧ Z.cell? ⟨p42, 1, none⟩ = some (.string q4) ∧ Z.cell? ⟨p42, 2, none⟩ = some (.int .i64 y4) ∧ Z.cell? ⟨p44, 0, none⟩ = some (.bool b) ∧ Z.cell? ⟨p44, 1, none⟩ = some (.string q4) ∧ Z.cell? ⟨p44, 2, none⟩ = some (.int .i64 y4)) ∧ ((w.heap.size < Z.heap.size ∧ p4 < Z.heap.size ∧ p6 < Z.heap.size ∧ p42 < Z.heap.size ∧ p44 < Z.heap.size) ∧ Below w.heap.size w Z))) := by
              rintro A Z ⟨⟨h0, h1, h2, h3, h4, h5, h6, h7, h8, h9, h10, h11, h12, h13, h14⟩, ⟨l0, l1, l2, l3, l4⟩, hb⟩ hx
              have hz := hx.size
              refine ⟨⟨(hx.cell (p := ⟨w.heap.size, 0, none⟩) l0).trans h0, (hx.cell (p := ⟨w.heap.size, 1, none⟩) l0).trans h1, (hx.cell (p := ⟨w.heap.size, 2, none⟩) l0).trans h2, (hx.cell (p := ⟨p4, 0, none⟩) l1).trans h3, (hx.cell (p := ⟨p4, 1, none⟩) l1).trans h4, (hx.cell (p := ⟨p4, 2, none⟩) l1).trans h5, (hx.cell (p := ⟨p6, 0, none⟩) l2).trans h6, (hx.cell (p := ⟨p6, 1, none⟩) l2).trans h7, (hx.cell (p := ⟨p6, 2, none⟩) l2).trans h8, (hx.cell (p := ⟨p42, 0, none⟩) l3).trans h9, (hx.cell (p := ⟨p42, 1, none⟩) l3).trans h10, (hx.cell (p := ⟨p42, 2, none⟩) l3).trans h11, (hx.cell (p := ⟨p44, 0, none⟩) l4).trans h12, (hx.cell (p := ⟨p44, 1, none⟩) l4).trans h13, (hx.cell (p := ⟨p44, 2, none⟩) l4).trans h14⟩, ⟨by omega, by omega, by omega, by omega, by omega⟩, via hb hx⟩
            obtain ⟨⟨z0, z1, z2, z3, z4, z5, z6, z7, z8, z9, z10, z11, z12, z13, z14⟩, zl, zB⟩ := ST44.out
            clear zl zB
            go_wp2_with fail
            refine (R1.out _).mono ?_
            rintro e w45x ⟨rfl, hb⟩
            have ST45 := Lib.hid (KS44.out _ _ ST44.out hb)
            clear hb
            clear z0 z1 z2 z3 z4 z5 z6 z7 z8 z9 z10 z11 z12 z13 z14
            obtain ⟨⟨z0, z1, z2, z3, z4, z5, z6, z7, z8, z9, z10, z11, z12, z13, z14⟩, zl, zB⟩ := ST45.out
            clear zl zB
            clear hal hp
            obtain ⟨l0, l1, l2, _⟩ := ST45.out.2.1
            have hB := ST45.out.2.2
            go_wp2
            all_goals
              go_roundw
              case rel => exact ⟨k + 1, by go_num, by omega, ⟨⟨z0, z1, z2, z3, z4, z5, z6, z7, z8⟩, ⟨l0, l1, l2⟩, hB⟩⟩
              case measure => simp [intOf]; omega
          · obtain ⟨rfl, rfl, hq⟩ := cas
            obtain ⟨⟨z0, z1, z2, z3, z4, z5, z6, z7, z8⟩, zl, zB⟩ := HS.out
            clear zl zB
            go_wp2_with fail
            refine (P1.out _).mono ?_
            rintro e w41x ⟨rfl, hb⟩
            have ST41 := Lib.hid (KS6.out _ _ HS.out hb)
            clear hb
            clear z0 z1 z2 z3 z4 z5 z6 z7 z8
            obtain ⟨⟨z0, z1, z2, z3, z4, z5, z6, z7, z8⟩, zl, zB⟩ := ST41.out
            clear zl zB
            obtain ⟨v42, hal⟩ : ∃ X, w41x.alloc (.cells #[.bool b, .string q5, .int .i64 y5] 23) = X := ⟨_, rfl⟩
            have hbn := al1 w41x (.cells #[.bool b, .string q5, .int .i64 y5] 23)
            rw [hal] at hbn
            have nbx := BoxD.new w41x b q5 y5
            rw [hal] at nbx
            have nbz : w41x.heap.size < v42.heap.size := by rw [← hal]; simp
            have STn := KS6.out _ _ ST41.out hbn
            clear hbn
            clear z0 z1 z2 z3 z4 z5 z6 z7 z8
            obtain ⟨p42, hp⟩ : ∃ b, w41x.heap.size = b := ⟨_, rfl⟩
            rw [hp] at nbx nbz
            obtain ⟨⟨z0, z1, z2, z3, z4, z5, z6, z7, z8⟩, ⟨l0, l1, l2⟩, zB⟩ := STn
            have ST42 : Hid ((v42.cell? ⟨w.heap.size, 0, none⟩ = some (.bool b) ∧ v42.cell? ⟨w.heap.size, 1, none⟩ = some (.string s) ∧ v42.cell? ⟨w.heap.size, 2, none⟩ = some (.int .i64 x) ∧ v42.cell? ⟨p4, 0, none⟩ = some (.bool b) ∧ v42.cell? ⟨p4, 1, none⟩ = some (.string q4) ∧ v42.cell? ⟨p4, 2, none⟩ = some (.int .i64 y4) ∧ v42.cell? ⟨p6, 0, none⟩ = some (.bool b) ∧ v42.cell? ⟨p6, 1, none⟩ = some (.string q5) ∧ v42.cell? ⟨p6, 2, none⟩ = some (.int .i64 y5) ∧ v42.cell? ⟨p42, 0, none⟩ = some (.bool b) ∧ v42.cell? ⟨p42, 1, none⟩ = some (.string q5) ∧ v42.cell? ⟨p42, 2, none⟩ = some (.int .i64 y5)) ∧ ((w.heap.size < v42.heap.size ∧ p4 < v42.heap.size ∧ p6 < v42.heap.size ∧ p42 < v42.heap.size) ∧ Below w.heap.size w v42)) := ⟨⟨z0, z1, z2, z3, z4, z5, z6, z7, z8, nbx.b, nbx.s, nbx.x⟩, ⟨l0, l1, l2, nbz⟩, zB⟩
            clear nbx nbz zB z0 z1 z2 z3 z4 z5 z6 z7 z8 l0 l1 l2
            have KS42 : Hid (∀ A Z : World, ((A.cell? ⟨w.heap.size, 0, none⟩ = some (.bool b) ∧ A.cell? ⟨w.heap.size, 1, none⟩ = some (.string s) ∧ A.cell? ⟨w.heap.size, 2, none⟩ = some (.int .i64 x) ∧ A.cell? ⟨p4, 0, none⟩ = some (.bool b) ∧ A.cell? ⟨p4, 1, none⟩ = some (.string q4) ∧ A.cell? ⟨p4, 2, none⟩ = some (.int .i64 y4) ∧ A.cell? ⟨p6, 0, none⟩ = some (.bool b) ∧ A.cell? ⟨p6, 1, none⟩ = some (.string q5) ∧ A.cell? ⟨p6, 2, none⟩ = some (.int .i64 y5) ∧ A.cell? ⟨p42, 0, none⟩ = some (.bool b) ∧ A.cell? ⟨p42, 1, none⟩ = some (.string q5) ∧ A.cell? ⟨p42, 2, none⟩ = some (.int .i64 y5)) ∧ ((w.heap.size < A.heap.size ∧ p4 < A.heap.size ∧ p6 < A.heap.size ∧ p42 < A.heap.size) ∧ Below w.heap.size w A)) → Below A.heap.size A Z → ((Z.cell? ⟨w.heap.size, 0, none⟩ = some (.bool b) ∧ Z.cell? ⟨w.heap.size, 1, none⟩ = some (.string s) ∧ Z.cell? ⟨w.heap.size, 2, none⟩ = some (.int .i64 x) ∧ Z.cell? ⟨p4, 0, none⟩ = some (.bool b) ∧ Z.cell? ⟨p4, 1, none⟩ = some (.string q4) ∧ Z.cell? ⟨p4, 2, none⟩ = some (.int .i64 y4) ∧ Z.cell? ⟨p6, 0, none⟩ = some (.bool b) ∧ Z.cell? ⟨p6, 1, none⟩ = some (.string q5) ∧ Z.cell? ⟨p6, 2, none⟩ = some (.int .i64 y5) ∧ Z.cell? ⟨p42, 0, none⟩ = some (.bool b) ∧ Z.cell? ⟨p42, 1, none⟩ = some (.string q5) ∧ Z.cell? ⟨p42, 2, none⟩ = some (.int .i64 y5)) ∧ ((w.heap.size < Z.heap.size ∧ p4 < Z.heap.size ∧ p6 < Z.heap.size ∧ p42 < Z.heap.size) ∧ Below w.heap.size w Z))) := by
              rintro A Z ⟨⟨h0, h1, h2, h3, h4, h5, h6, h7, h8, h9, h10, h11⟩, ⟨l0, l1, l2, l3⟩, hb⟩ hx
              have hz := hx.size
              refine ⟨⟨(hx.cell (p := ⟨w.heap.size, 0, none⟩) l0).trans h0, (hx.cell (p := ⟨w.heap.size, 1, none⟩) l0).trans h1, (hx.cell (p := ⟨w.heap.size, 2, none⟩) l0).trans h2, (hx.cell (p := ⟨p4, 0, none⟩) l1).trans h3, (hx.cell (p := ⟨p4, 1, none⟩) l1).trans h4, (hx.cell (p := ⟨p4, 2, none⟩) l1).trans h5, (hx.cell (p := ⟨p6, 0, none⟩) l2).trans h6, (hx.cell (p := ⟨p6, 1, none⟩) l2).trans h7, (hx.cell (p := ⟨p6, 2, none⟩) l2).trans h8, (hx.cell (p := ⟨p42, 0, none⟩) l3).trans h9, (hx.cell (p := ⟨p42, 1, none⟩) l3).trans h10, (hx.cell (p := ⟨p42, 2, none⟩) l3).trans h11⟩, ⟨by omega, by omega, by omega, by omega⟩, via hb hx⟩
            obtain ⟨⟨z0, z1, z2, z3, z4, z5, z6, z7, z8, z9, z10, z11⟩, zl, zB⟩ := ST42.out
            clear zl zB
            go_wp2_with fail
            refine (P2.out _).mono ?_
            rintro e w43x ⟨rfl, hb⟩
            have ST43 := Lib.hid (KS42.out _ _ ST42.out hb)
            clear hb
            clear z0 z1 z2 z3 z4 z5 z6 z7 z8 z9 z10 z11
            obtain ⟨⟨z0, z1, z2, z3, z4, z5, z6, z7, z8, z9, z10, z11⟩, zl, zB⟩ := ST43.out
            clear zl zB
            clear hal hp
            obtain ⟨v44, hal⟩ : ∃ X, w43x.alloc (.cells #[.bool b, .string q5, .int .i64 y5] 23) = X := ⟨_, rfl⟩
            have hbn := al1 w43x (.cells #[.bool b, .string q5, .int .i64 y5] 23)
            rw [hal] at hbn
            have nbx := BoxD.new w43x b q5 y5
            rw [hal] at nbx
            have nbz : w43x.heap.size < v44.heap.size := by rw [← hal]; simp
            have STn := KS42.out _ _ ST43.out hbn
            clear hbn
            clear z0 z1 z2 z3 z4 z5 z6 z7 z8 z9 z10 z11
            obtain ⟨p44, hp⟩ : ∃ b, w43x.heap.size = b := ⟨_, rfl⟩
            rw [hp] at nbx nbz
            obtain ⟨⟨z0, z1, z2, z3, z4, z5, z6, z7, z8, z9, z10, z11⟩, ⟨l0, l1, l2, l3⟩, zB⟩ := STn
            have ST44 : Hid ((v44.cell? ⟨w.heap.size, 0, none⟩ = some (.bool b) ∧ v44.cell? ⟨w.heap.size, 1, none⟩ = some (.string s) ∧ v44.cell? ⟨w.heap.size, 2, none⟩ = some (.int .i64 x) ∧ v44.cell? ⟨p4, 0, none⟩ = some (.bool b) ∧ v44.cell? ⟨p4, 1, none⟩ = some (.string q4) ∧ v44.cell? ⟨p4, 2, none⟩ = some (.int .i64 y4) ∧ v44.cell? ⟨p6, 0, none⟩ = some (.bool b) ∧ v44.cell? ⟨p6, 1, none⟩ = some (.string q5) ∧ v44.cell? ⟨p6, 2, none⟩ = some (.int .i64 y5) ∧ v44.cell? ⟨p42, 0, none⟩ = some (.bool b) ∧ v44.cell? ⟨p42, 1, none⟩ = some (.string q5) ∧ v44.cell? ⟨p42, 2, none⟩ = some (.int .i64 y5) ∧ v44.cell? ⟨p44, 0, none⟩ = some (.bool b) ∧ v44.cell? ⟨p44, 1, none⟩ = some (.string q5) ∧ v44.cell? ⟨p44, 2, none⟩ = some (.int .i64 y5)) ∧ ((w.heap.size < v44.heap.size ∧ p4 < v44.heap.size ∧ p6 < v44.heap.size ∧ p42 < v44.heap.size ∧ p44 < v44.heap.size) ∧ Below w.heap.size w v44)) := ⟨⟨z0, z1, z2, z3, z4, z5, z6, z7, z8, z9, z10, z11, nbx.b, nbx.s, nbx.x⟩, ⟨l0, l1, l2, l3, nbz⟩, zB⟩
            clear nbx nbz zB z0 z1 z2 z3 z4 z5 z6 z7 z8 z9 z10 z11 l0 l1 l2 l3
            have KS44 : Hid (∀ A Z : World, ((A.cell? ⟨w.heap.size, 0, none⟩ = some (.bool b) ∧ A.cell? ⟨w.heap.size, 1, none⟩ = some (.string s) ∧ A.cell? ⟨w.heap.size, 2, none⟩ = some (.int .i64 x) ∧ A.cell? ⟨p4, 0, none⟩ = some (.bool b) ∧ A.cell? ⟨p4, 1, none⟩ = some (.string q4) ∧ A.cell? ⟨p4, 2, none⟩ = some (.int .i64 y4) ∧ A.cell? ⟨p6, 0, none⟩ = some (.bool b) ∧ A.cell? ⟨p6, 1, none⟩ = some (.string q5) ∧ A.cell? ⟨p6, 2, none⟩ = some (.int .i64 y5) ∧ A.cell? ⟨p42, 0, none⟩ = some (.bool b) ∧ A.cell? ⟨p42, 1, none⟩ = some (.string q5) ∧ A.cell? ⟨p42, 2, none⟩ = some (.int .i64 y5) ∧ A.cell? ⟨p44, 0, none⟩ = some (.bool b) ∧ A.cell? ⟨p44, 1, none⟩ = some (.string q5) ∧ A.cell? ⟨p44, 2, none⟩ = some (.int .i64 y5)) ∧ ((w.heap.size < A.heap.size ∧ p4 < A.heap.size ∧ p6 < A.heap.size ∧ p42 < A.heap.size ∧ p44 < A.heap.size) ∧ Below w.heap.size w A)) → Below A.heap.size A Z → ((Z.cell? ⟨w.heap.size, 0, none⟩ = some (.bool b) ∧ Z.cell? ⟨w.heap.size, 1, none⟩ = some (.string s) ∧ Z.cell? ⟨w.heap.size, 2, none⟩ = some (.int .i64 x) ∧ Z.cell? ⟨p4, 0, none⟩ = some (.bool b) ∧ Z.cell? ⟨p4, 1, none⟩ = some (.string q4) ∧ Z.cell? ⟨p4, 2, none⟩ = some (.int .i64 y4) ∧ Z.cell? ⟨p6, 0, none⟩ = some (.bool b) ∧ Z.cell? ⟨p6, 1, none⟩ = some (.string q5) ∧ Z.cell? ⟨p6, 2, none⟩ = some (.int .i64 y5) ∧ Z.cell? ⟨p42, 0, none⟩ = some (.bool b) ∧ Z.cell? ⟨p42, 1, none⟩ = some (.string q5) ∧ Z.cell? ⟨p42, 2, none⟩ = some (.int .i64 y5) ∧ Z.cell? ⟨p44, 0, none⟩ = some (.bool b) ∧ Z.cell? ⟨p44, 1, none⟩ = some (.string q5) ∧ Z.cell? ⟨p44, 2, none⟩ = some (.int .i64 y5)) ∧ ((w.heap.size < Z.heap.size ∧ p4 < Z.heap.size ∧ p6 < Z.heap.size ∧ p42 < Z.heap.size ∧ p44 < Z.heap.size) ∧ Below w.heap.size w Z))) := by
              rintro A Z ⟨⟨h0, h1, h2, h3, h4, h5, h6, h7, h8, h9, h10, h11, h12, h13, h14⟩, ⟨l0, l1, l2, l3, l4⟩, hb⟩ hx
              have hz := hx.size
              refine ⟨⟨(hx.cell (p := ⟨w.heap.size, 0, none⟩) l0).trans h0, (hx.cell (p := ⟨w.heap.size, 1, none⟩) l0).trans h1, (hx.cell (p := ⟨w.heap.size, 2, none⟩) l0).trans h2, (hx.cell (p := ⟨p4, 0, none⟩) l1).trans h3, (hx.cell (p := ⟨p4, 1, none⟩) l1).trans h4, (hx.cell (p := ⟨p4, 2, none⟩) l1).trans h5, (hx.cell (p := ⟨p6, 0, none⟩) l2).trans h6, (hx.cell (p := ⟨p6, 1, none⟩) l2).trans h7, (hx.cell (p := ⟨p6, 2, none⟩) l2).trans h8, (hx.cell (p := ⟨p42, 0, none⟩) l3).trans h9, (hx.cell (p := ⟨p42, 1, none⟩) l3).trans h10, (hx.cell (p := ⟨p42, 2, none⟩) l3).trans h11, (hx.cell (p := ⟨p44, 0, none⟩) l4).trans h12, (hx.cell (p := ⟨p44, 1, none⟩) l4).trans h13, (hx.cell (p := ⟨p44, 2, none⟩) l4).trans h14⟩, ⟨by omega, by omega, by omega, by omega, by omega⟩, via hb hx⟩
            obtain ⟨⟨z0, z1, z2, z3, z4, z5, z6, z7, z8, z9, z10, z11, z12, z13, z14⟩, zl, zB⟩ := ST44.out
            clear zl zB
            go_wp2_with fail
            refine (R1.out _).mono ?_
            rintro e w45x ⟨rfl, hb⟩
            have ST45 := Lib.hid (KS44.out _ _ ST44.out hb)
            clear hb
            clear z0 z1 z2 z3 z4 z5 z6 z7 z8 z9 z10 z11 z12 z13 z14
            obtain ⟨⟨z0, z1, z2, z3, z4, z5, z6, z7, z8, z9, z10, z11, z12, z13, z14⟩, zl, zB⟩ := ST45.out
            clear zl zB
            clear hal hp
            obtain ⟨l0, l1, l2, _⟩ := ST45.out.2.1
            have hB := ST45.out.2.2
            go_wp2
            all_goals
              go_roundw
              case rel => exact ⟨k + 1, by go_num, by omega, ⟨⟨z0, z1, z2, z3, z4, z5, z6, z7, z8⟩, ⟨l0, l1, l2⟩, hB⟩⟩
              case measure => simp [intOf]; omega
          · obtain ⟨rfl, rfl, hq, hy⟩ := cas
            obtain ⟨⟨z0, z1, z2, z3, z4, z5, z6, z7, z8⟩, zl, zB⟩ := HS.out
            clear zl zB
            go_wp2_with fail
            refine (P1.out _).mono ?_
            rintro e w41x ⟨rfl, hb⟩
            have ST41 := Lib.hid (KS6.out _ _ HS.out hb)
            clear hb
            clear z0 z1 z2 z3 z4 z5 z6 z7 z8
            obtain ⟨⟨z0, z1, z2, z3, z4, z5, z6, z7, z8⟩, zl, zB⟩ := ST41.out
            clear zl zB
            obtain ⟨v42, hal⟩ : ∃ X, w41x.alloc (.cells #[.bool b, .string q5, .int .i64 y5] 23) = X := ⟨_, rfl⟩
            have hbn := al1 w41x (.cells #[.bool b, .string q5, .int .i64 y5] 23)
            rw [hal] at hbn
            have nbx := BoxD.new w41x b q5 y5
            rw [hal] at nbx
            have nbz : w41x.heap.size < v42.heap.size := by rw [← hal]; simp
            have STn := KS6.out _ _ ST41.out hbn
            clear hbn
            clear z0 z1 z2 z3 z4 z5 z6 z7 z8
            obtain ⟨p42, hp⟩ : ∃ b, w41x.heap.size = b := ⟨_, rfl⟩
            rw [hp] at nbx nbz
            obtain ⟨⟨z0, z1, z2, z3, z4, z5, z6, z7, z8⟩, ⟨l0, l1, l2⟩, zB⟩ := STn
            have ST42 : Hid ((v42.cell? ⟨w.heap.size, 0, none⟩ = some (.bool b) ∧ v42.cell? ⟨w.heap.size, 1, none⟩ = some (.string s) ∧ v42.cell? ⟨w.heap.size, 2, none⟩ = some (.int .i64 x) ∧ v42.cell? ⟨p4, 0, none⟩ = some (.bool b) ∧ v42.cell? ⟨p4, 1, none⟩ = some (.string q4) ∧ v42.cell? ⟨p4, 2, none⟩ = some (.int .i64 y4) ∧ v42.cell? ⟨p6, 0, none⟩ = some (.bool b) ∧ v42.cell? ⟨p6, 1, none⟩ = some (.string q5) ∧ v42.cell? ⟨p6, 2, none⟩ = some (.int .i64 y5) ∧ v42.cell? ⟨p42, 0, none⟩ = some (.bool b) ∧ v42.cell? ⟨p42, 1, none⟩ = some (.string q5) ∧ v42.cell? ⟨p42, 2, none⟩ = some (.int .i64 y5)) ∧ ((w.heap.size < v42.heap.size ∧ p4 < v42.heap.size ∧ p6 < v42.heap.size ∧ p42 < v42.heap.size) ∧ Below w.heap.size w v42)) := ⟨⟨z0, z1, z2, z3, z4, z5, z6, z7, z8, nbx.b, nbx.s, nbx.x⟩, ⟨l0, l1, l2, nbz⟩, zB⟩
            clear nbx nbz zB z0 z1 z2 z3 z4 z5 z6 z7 z8 l0 l1 l2
            have KS42 : Hid (∀ A Z : World, ((A.cell? ⟨w.heap.size, 0, none⟩ = some (.bool b) ∧ A.cell? ⟨w.heap.size, 1, none⟩ = some (.string s) ∧ A.cell? ⟨w.heap.size, 2, none⟩ = some (.int .i64 x) ∧ A.cell? ⟨p4, 0, none⟩ = some (.bool b) ∧ A.cell? ⟨p4, 1, none⟩ = some (.string q4) ∧ A.cell? ⟨p4, 2, none⟩ = some (.int .i64 y4) ∧ A.cell? ⟨p6, 0, none⟩ = some (.bool b) ∧ A.cell? ⟨p6, 1, none⟩ = some (.string q5) ∧ A.cell? ⟨p6, 2, none⟩ = some (.int .i64 y5) ∧ A.cell? ⟨p42, 0, none⟩ = some (.bool b) ∧ A.cell? ⟨p42, 1, none⟩ = some (.string q5) ∧ A.cell? ⟨p42, 2, none⟩ = some (.int .i64 y5)) ∧ ((w.heap.size < A.heap.size ∧ p4 < A.heap.size ∧ p6 < A.heap.size ∧ p42 < A.heap.size) ∧ Below w.heap.size w A)) → Below A.heap.size A Z → ((Z.cell? ⟨w.heap.size, 0, none⟩ = some (.bool b) ∧ Z.cell? ⟨w.heap.size, 1, none⟩ = some (.string s) ∧ Z.cell? ⟨w.heap.size, 2, none⟩ = some (.int .i64 x) ∧ Z.cell? ⟨p4, 0, none⟩ = some (.bool b) ∧ Z.cell? ⟨p4, 1, none⟩ = some (.string q4) ∧ Z.cell? ⟨p4, 2, none⟩ = some (.int .i64 y4) ∧ Z.cell? ⟨p6, 0, none⟩ = some (.bool b) ∧ Z.cell? ⟨p6, 1, none⟩ = some (.string q5) ∧ Z.cell? ⟨p6, 2, none⟩ = some (.int .i64 y5) ∧ Z.cell? ⟨p42, 0, none⟩ = some (.bool b) ∧ Z.cell? ⟨p42, 1, none⟩ = some (.string q5) ∧ Z.cell? ⟨p42, 2, none⟩ = some (.int .i64 y5)) ∧ ((w.heap.size < Z.heap.size ∧ p4 < Z.heap.size ∧ p6 < Z.heap.size ∧ p42 < Z.heap.size) ∧ Below w.heap.size w Z))) := by
              rintro A Z ⟨⟨h0, h1, h2, h3, h4, h5, h6, h7, h8, h9, h10, h11⟩, ⟨l0, l1, l2, l3⟩, hb⟩ hx
              have hz := hx.size
              refine ⟨⟨(hx.cell (p := ⟨w.heap.size, 0, none⟩) l0).trans h0, (hx.cell (p := ⟨w.heap.size, 1, none⟩) l0).trans h1, (hx.cell (p := ⟨w.heap.size, 2, none⟩) l0).trans h2, (hx.cell (p := ⟨p4, 0, none⟩) l1).trans h3, (hx.cell (p := ⟨p4, 1, none⟩) l1).trans h4, (hx.cell (p := ⟨p4, 2, none⟩) l1).trans h5, (hx.cell (p := ⟨p6, 0, none⟩) l2).trans h6, (hx.cell (p := ⟨p6, 1, none⟩) l2).trans h7, (hx.cell (p := ⟨p6, 2, none⟩) l2).trans h8, (hx.cell (p := ⟨p42, 0, none⟩) l3).trans h9, (hx.cell (p := ⟨p42, 1, none⟩) l3).trans h10, (hx.cell (p := ⟨p42, 2, none⟩) l3).trans h11⟩, ⟨by omega, by omega, by omega, by omega⟩, via hb hx⟩
            obtain ⟨⟨z0, z1, z2, z3, z4, z5, z6, z7, z8, z9, z10, z11⟩, zl, zB⟩ := ST42.out
            clear zl zB
            go_wp2_with fail
            refine (P2.out _).mono ?_
            rintro e w43x ⟨rfl, hb⟩
            have ST43 := Lib.hid (KS42.out _ _ ST42.out hb)
            clear hb
            clear z0 z1 z2 z3 z4 z5 z6 z7 z8 z9 z10 z11
            obtain ⟨⟨z0, z1, z2, z3, z4, z5, z6, z7, z8, z9, z10, z11⟩, zl, zB⟩ := ST43.out
            clear zl zB
            clear hal hp
            obtain ⟨v44, hal⟩ : ∃ X, w43x.alloc (.cells #[.bool b, .string q5, .int .i64 y5] 23) = X := ⟨_, rfl⟩
            have hbn := al1 w43x (.cells #[.bool b, .string q5, .int .i64 y5] 23)
            rw [hal] at hbn
            have nbx := BoxD.new w43x b q5 y5
            rw [hal] at nbx
            have nbz : w43x.heap.size < v44.heap.size := by rw [← hal]; simp
            have STn := KS42.out _ _ ST43.out hbn
            clear hbn
            clear z0 z1 z2 z3 z4 z5 z6 z7 z8 z9 z10 z11
            obtain ⟨p44, hp⟩ : ∃ b, w43x.heap.size = b := ⟨_, rfl⟩
            rw [hp] at nbx nbz
            obtain ⟨⟨z0, z1, z2, z3, z4, z5, z6, z7, z8, z9, z10, z11⟩, ⟨l0, l1, l2, l3⟩, zB⟩ := STn
            have ST44 : Hid ((v44.cell? ⟨w.heap.size, 0, none⟩ = some (.bool b) ∧ v44.cell? ⟨w.heap.size, 1, none⟩ = some (.string s) ∧ v44.cell? ⟨w.heap.size, 2, none⟩ = some (.int .i64 x) ∧ v44.cell? ⟨p4, 0, none⟩ = some (.bool b) ∧ v44.cell? ⟨p4, 1, none⟩ = some (.string q4) ∧ v44.cell? ⟨p4, 2, none⟩ = some (.int .i64 y4) ∧ v44.cell? ⟨p6, 0, none⟩ = some (.bool b) ∧ v44.cell? ⟨p6, 1, none⟩ = some (.string q5) ∧ v44.cell? ⟨p6, 2, none⟩ = some (.int .i64 y5) ∧ v44.cell? ⟨p42, 0, none⟩ = some (.bool b) ∧ v44.cell? ⟨p42, 1, none⟩ = some (.string q5) ∧ v44.cell? ⟨p42, 2, none⟩ = some (.int .i64 y5) ∧ v44.cell? ⟨p44, 0, none⟩ = some (.bool b) ∧ v44.cell? ⟨p44, 1, none⟩ = some (.string q5) ∧ v44.cell? ⟨p44, 2, none⟩ = some (.int .i64 y5)) ∧ ((w.heap.size < v44.heap.size ∧ p4 < v44.heap.size ∧ p6 < v44.heap.size ∧ p42 < v44.heap.size ∧ p44 < v44.heap.size) ∧ Below w.heap.size w v44)) := ⟨⟨z0, z1, z2, z3, z4, z5, z6, z7, z8, z9, z10, z11, nbx.b, nbx.s, nbx.x⟩, ⟨l0, l1, l2, l3, nbz⟩, zB⟩
            clear nbx nbz zB z0 z1 z2 z3 z4 z5 z6 z7 z8 z9 z10 z11 l0 l1 l2 l3
            have KS44 : Hid (∀ A Z : World, ((A.cell? ⟨w.heap.size, 0, none⟩ = some (.bool b) ∧ A.cell? ⟨w.heap.size, 1, none⟩ = some (.string s) ∧ A.cell? ⟨w.heap.size, 2, none⟩ = some (.int .i64 x) ∧ A.cell? ⟨p4, 0, none⟩ = some (.bool b) ∧ A.cell? ⟨p4, 1, none⟩ = some (.string q4) ∧ A.cell? ⟨p4, 2, none⟩ = some (.int .i64 y4) ∧ A.cell? ⟨p6, 0, none⟩ = some (.bool b) ∧ A.cell? ⟨p6, 1, none⟩ = some (.string q5) ∧ A.cell? ⟨p6, 2, none⟩ = some (.int .i64 y5) ∧ A.cell? ⟨p42, 0, none⟩ = some (.bool b) ∧ A.cell? ⟨p42, 1, none⟩ = some (.string q5) ∧ A.cell? ⟨p42, 2, none⟩ = some (.int .i64 y5) ∧ A.cell? ⟨p44, 0, none⟩ = some (.bool b) ∧ A.cell? ⟨p44, 1, none⟩ = some (.string q5) ∧ A.cell? ⟨p44, 2, none⟩ = some (.int .i64 y5)) ∧ ((w.heap.size < A.heap.size ∧ p4 < A.heap.size ∧ p6 < A.heap.size ∧ p42 < A.heap.size ∧ p44 < A.heap.size) ∧ Below w.heap.size w A)) → Below A.heap.size A Z → ((Z.cell? ⟨w.heap.size, 0, none⟩ = some (.bool b) ∧ Z.cell? ⟨w.heap.size, 1, none⟩ = some (.string s) ∧ Z.cell? ⟨w.heap.size, 2, none⟩ = some (.int .i64 x) ∧ Z.cell? ⟨p4, 0, none⟩ = some (.bool b) ∧ Z.cell? ⟨p4, 1, none⟩ = some (.string q4) ∧ Z.cell? ⟨p4, 2, none⟩ = some (.int .i64 y4) ∧ Z.cell? ⟨p6, 0, none⟩ = some (.bool b) ∧ Z.cell? ⟨p6, 1, none⟩ = some (.string q5) ∧ Z.cell? ⟨p6, 2, none⟩ = some (.int .i64 y5) ∧ Z.cell? ⟨p42, 0, none⟩ = some (.bool b) ∧ Z.cell? ⟨p42, 1, none⟩ = some (.string q5) ∧ Z.cell? ⟨p42, 2, none⟩ = some (.int .i64 y5) ∧ Z.cell? ⟨p44, 0, none⟩ = some (.bool b) ∧ Z.cell? ⟨p44, 1, none⟩ = some (.string q5) ∧ Z.cell? ⟨p44, 2, none⟩ = some (.int .i64 y5)) ∧ ((w.heap.size < Z.heap.size ∧ p4 < Z.heap.size ∧ p6 < Z.heap.size ∧ p42 < Z.heap.size ∧ p44 < Z.heap.size) ∧ Below w.heap.size w Z))) := by
              rintro A Z ⟨⟨h0, h1, h2, h3, h4, h5, h6, h7, h8, h9, h10, h11, h12, h13, h14⟩, ⟨l0, l1, l2, l3, l4⟩, hb⟩ hx
              have hz := hx.size
              refine ⟨⟨(hx.cell (p := ⟨w.heap.size, 0, none⟩) l0).trans h0, (hx.cell (p := ⟨w.heap.size, 1, none⟩) l0).trans h1, (hx.cell (p := ⟨w.heap.size, 2, none⟩) l0).trans h2, (hx.cell (p := ⟨p4, 0, none⟩) l1).trans h3, (hx.cell (p := ⟨p4, 1, none⟩) l1).trans h4, (hx.cell (p := ⟨p4, 2, none⟩) l1).trans h5, (hx.cell (p := ⟨p6, 0, none⟩) l2).trans h6, (hx.cell (p := ⟨p6, 1, none⟩) l2).trans h7, (hx.cell (p := ⟨p6, 2, none⟩) l2).trans h8, (hx.cell (p := ⟨p42, 0, none⟩) l3).trans h9, (hx.cell (p := ⟨p42, 1, none⟩) l3).trans h10, (hx.cell (p := ⟨p42, 2, none⟩) l3).trans h11, (hx.cell (p := ⟨p44, 0, none⟩) l4).trans h12, (hx.cell (p := ⟨p44, 1, none⟩) l4).trans h13, (hx.cell (p := ⟨p44, 2, none⟩) l4).trans h14⟩, ⟨by omega, by omega, by omega, by omega, by omega⟩, via hb hx⟩
            obtain ⟨⟨z0, z1, z2, z3, z4, z5, z6, z7, z8, z9, z10, z11, z12, z13, z14⟩, zl, zB⟩ := ST44.out
            clear zl zB
            go_wp2_with fail
            refine (R1.out _).mono ?_
            rintro e w45x ⟨rfl, hb⟩
            have ST45 := Lib.hid (KS44.out _ _ ST44.out hb)
            clear hb
            clear z0 z1 z2 z3 z4 z5 z6 z7 z8 z9 z10 z11 z12 z13 z14
            obtain ⟨⟨z0, z1, z2, z3, z4, z5, z6, z7, z8, z9, z10, z11, z12, z13, z14⟩, zl, zB⟩ := ST45.out
            clear zl zB
            clear hal hp
            obtain ⟨l0, l1, l2, _⟩ := ST45.out.2.1
            have hB := ST45.out.2.2
            go_wp2
            all_goals
              go_roundw
              case rel => exact ⟨k + 1, by go_num, by omega, ⟨⟨z0, z1, z2, z3, z4, z5, z6, z7, z8⟩, ⟨l0, l1, l2⟩, hB⟩⟩
              case measure => simp [intOf]; omega
      · have c1 : ¬ (k : Int) < 6 := by omega
        obtain rfl : k = 6 := by omega
        obtain ⟨⟨z0, z1, z2, z3, z4, z5, z6, z7, z8⟩, zl, zB⟩ := HS.out
        clear zl zB
        go_wp2
        go_meet
        exact ⟨rfl, HS⟩
  case rest =>
  obtain ⟨rfl, ST10⟩ := hcut
  clear z0 z1 z2 z3 z4 z5 z6 z7 z8
  clear WAY PL PH
  obtain ⟨⟨z0, z1, z2, z3, z4, z5, z6, z7, z8⟩, zl, zB⟩ := ST10.out
  clear zl zB
  go_wp2_with fail
  refine (SG.out _).mono ?_
  rintro e w11x ⟨rfl, hb⟩
  have ST11 := Lib.hid (KS6.out _ _ ST10.out hb)
  clear hb
  clear z0 z1 z2 z3 z4 z5 z6 z7 z8
  obtain ⟨⟨z0, z1, z2, z3, z4, z5, z6, z7, z8⟩, zl, zB⟩ := ST11.out
  clear zl zB
  obtain ⟨v12, hal⟩ : ∃ X, w11x.alloc (.cells #[.bool cz, .string qz, .int .i64 yz] 23) = X := ⟨_, rfl⟩
  have hbn := al1 w11x (.cells #[.bool cz, .string qz, .int .i64 yz] 23)
  rw [hal] at hbn
  have nbx := BoxD.new w11x cz qz yz
  rw [hal] at nbx
  have nbz : w11x.heap.size < v12.heap.size := by rw [← hal]; simp
  have STn := KS6.out _ _ ST11.out hbn
  clear hbn
  clear z0 z1 z2 z3 z4 z5 z6 z7 z8
  obtain ⟨p12, hp⟩ : ∃ b, w11x.heap.size = b := ⟨_, rfl⟩
  rw [hp] at nbx nbz
  obtain ⟨⟨z0, z1, z2, z3, z4, z5, z6, z7, z8⟩, ⟨l0, l1, l2⟩, zB⟩ := STn
  have ST12 : Hid ((v12.cell? ⟨w.heap.size, 0, none⟩ = some (.bool b) ∧ v12.cell? ⟨w.heap.size, 1, none⟩ = some (.string s) ∧ v12.cell? ⟨w.heap.size, 2, none⟩ = some (.int .i64 x) ∧ v12.cell? ⟨p4, 0, none⟩ = some (.bool b) ∧ v12.cell? ⟨p4, 1, none⟩ = some (.string q4) ∧ v12.cell? ⟨p4, 2, none⟩ = some (.int .i64 y4) ∧ v12.cell? ⟨p6, 0, none⟩ = some (.bool b) ∧ v12.cell? ⟨p6, 1, none⟩ = some (.string q5) ∧ v12.cell? ⟨p6, 2, none⟩ = some (.int .i64 y5) ∧ v12.cell? ⟨p12, 0, none⟩ = some (.bool cz) ∧ v12.cell? ⟨p12, 1, none⟩ = some (.string qz) ∧ v12.cell? ⟨p12, 2, none⟩ = some (.int .i64 yz)) ∧ ((w.heap.size < v12.heap.size ∧ p4 < v12.heap.size ∧ p6 < v12.heap.size ∧ p12 < v12.heap.size) ∧ Below w.heap.size w v12)) := ⟨⟨z0, z1, z2, z3, z4, z5, z6, z7, z8, nbx.b, nbx.s, nbx.x⟩, ⟨l0, l1, l2, nbz⟩, zB⟩
  clear nbx nbz zB z0 z1 z2 z3 z4 z5 z6 z7 z8 l0 l1 l2
  have KS12 : Hid (∀ A Z : World, ((A.cell? ⟨w.heap.size, 0, none⟩ = some (.bool b) ∧ A.cell? ⟨w.heap.size, 1, none⟩ = some (.string s) ∧ A.cell? ⟨w.heap.size, 2, none⟩ = some (.int .i64 x) ∧ A.cell? ⟨p4, 0, none⟩ = some (.bool b) ∧ A.cell? ⟨p4, 1, none⟩ = some (.string q4) ∧ A.cell? ⟨p4, 2, none⟩ = some (.int .i64 y4) ∧ A.cell? ⟨p6, 0, none⟩ = some (.bool b) ∧ A.cell? ⟨p6, 1, none⟩ = some (.string q5) ∧ A.cell? ⟨p6, 2, none⟩ = some (.int .i64 y5) ∧ A.cell? ⟨p12, 0, none⟩ = some (.bool cz) ∧ A.cell? ⟨p12, 1, none⟩ = some (.string qz) ∧ A.cell? ⟨p12, 2, none⟩ = some (.int .i64 yz)) ∧ ((w.heap.size < A.heap.size ∧ p4 < A.heap.size ∧ p6 < A.heap.size ∧ p12 < A.heap.size) ∧ Below w.heap.size w A)) → Below A.heap.size A Z → ((Z.cell? ⟨w.heap.size, 0, none⟩ = some (.bool b) ∧ Z.cell? ⟨w.heap.size, 1, none⟩ = some (.string s) ∧ Z.cell? ⟨w.heap.size, 2, none⟩ = some (.int .i64 x) ∧ Z.cell? ⟨p4, 0, none⟩ = some (.bool b) ∧ Z.cell? ⟨p4, 1, none⟩ = some (.string q4) ∧ Z.cell? ⟨p4, 2, none⟩ = some (.int .i64 y4) ∧ Z.cell? ⟨p6, 0, none⟩ = some (.bool b) ∧ Z.cell? ⟨p6, 1, none⟩ = some (.string q5) ∧ Z.cell? ⟨p6, 2, none⟩ = some (.int .i64 y5) ∧ Z.cell? ⟨p12, 0, none⟩ = some (.bool cz) ∧ Z.cell? ⟨p12, 1, none⟩ = some (.string qz) ∧ Z.cell? ⟨p12, 2, none⟩ = some (.int .i64 yz)) ∧ ((w.heap.size < Z.heap.size ∧ p4 < Z.heap.size ∧ p6 < Z.heap.size ∧ p12 < Z.heap.size) ∧ Below w.heap.size w Z))) := by
    rintro A Z ⟨⟨h0, h1, h2, h3, h4, h5, h6, h7, h8, h9, h10, h11⟩, ⟨l0, l1, l2, l3⟩, hb⟩ hx
    have hz := hx.size
    refine ⟨⟨(hx.cell (p := ⟨w.heap.size, 0, none⟩) l0).trans h0, (hx.cell (p := ⟨w.heap.size, 1, none⟩) l0).trans h1, (hx.cell (p := ⟨w.heap.size, 2, none⟩) l0).trans h2, (hx.cell (p := ⟨p4, 0, none⟩) l1).trans h3, (hx.cell (p := ⟨p4, 1, none⟩) l1).trans h4, (hx.cell (p := ⟨p4, 2, none⟩) l1).trans h5, (hx.cell (p := ⟨p6, 0, none⟩) l2).trans h6, (hx.cell (p := ⟨p6, 1, none⟩) l2).trans h7, (hx.cell (p := ⟨p6, 2, none⟩) l2).trans h8, (hx.cell (p := ⟨p12, 0, none⟩) l3).trans h9, (hx.cell (p := ⟨p12, 1, none⟩) l3).trans h10, (hx.cell (p := ⟨p12, 2, none⟩) l3).trans h11⟩, ⟨by omega, by omega, by omega, by omega⟩, via hb hx⟩
  obtain ⟨⟨z0, z1, z2, z3, z4, z5, z6, z7, z8, z9, z10, z11⟩, zl, zB⟩ := ST12.out
  clear zl zB
  rcases HZ.out with ⟨rfl, hl, rfl⟩ | rfl
  · have g1 : (qz.size : Int) ≤ ((h2 + 1 : Nat) : Int) := by omega
    have dz : decide ((qz.size : Int) ≤ ((h2 + 1 : Nat) : Int)) = true := decide_eq_true g1
    go_wp2
    clear hal hp
    go_ret
    exact ⟨rfl, ST12.out.2.2⟩
  · go_wp2
    clear hal hp
    go_ret
    exact ⟨rfl, ST12.out.2.2⟩
set_option maxRecDepth 100000 in
theorem right_big (b : Bool) (s : ByteArray) (x : Int) (w : World) (hs : 1000000 < s.size) :
    Calls Tryd.prog 12 #[.agg #[.bool b, .string s, .int .i64 x]] w fun e w' => e = .returned (.bool false) ∧ Below w.heap.size w w' := by
  have e0 : ((s.size : Int) == 0) = false := beq_eq_false_iff_ne.2 (by omega)
  have g1 : ¬ (s.size : Int) ≤ 1100 := by omega
  have d1 : decide ((s.size : Int) ≤ 1100) = false := decide_eq_false g1
  obtain ⟨W, hW, ⟨e0, e1, e2⟩, hbW, sz⟩ := boxD1 w b s x
  have KS : Hid (∀ A Z : World, ((A.cell? ⟨w.heap.size, 0, none⟩ = some (.bool b) ∧ A.cell? ⟨w.heap.size, 1, none⟩ = some (.string s) ∧ A.cell? ⟨w.heap.size, 2, none⟩ = some (.int .i64 x)) ∧ ((w.heap.size < A.heap.size) ∧ Below w.heap.size w A)) → Below A.heap.size A Z → ((Z.cell? ⟨w.heap.size, 0, none⟩ = some (.bool b) ∧ Z.cell? ⟨w.heap.size, 1, none⟩ = some (.string s) ∧ Z.cell? ⟨w.heap.size, 2, none⟩ = some (.int .i64 x)) ∧ ((w.heap.size < Z.heap.size) ∧ Below w.heap.size w Z))) := by
    rintro A Z ⟨⟨h0, h1, h2⟩, l0, hb⟩ hx
    have hz := hx.size
    refine ⟨⟨(hx.cell (p := ⟨w.heap.size, 0, none⟩) l0).trans h0, (hx.cell (p := ⟨w.heap.size, 1, none⟩) l0).trans h1, (hx.cell (p := ⟨w.heap.size, 2, none⟩) l0).trans h2⟩, by omega, via hb hx⟩
  have ST : Hid ((W.cell? ⟨w.heap.size, 0, none⟩ = some (.bool b) ∧ W.cell? ⟨w.heap.size, 1, none⟩ = some (.string s) ∧ W.cell? ⟨w.heap.size, 2, none⟩ = some (.int .i64 x)) ∧ ((w.heap.size < W.heap.size) ∧ Below w.heap.size w W)) := ⟨⟨e0, e1, e2⟩, by omega, hbW⟩
  clear hbW sz e0 e1 e2
  obtain ⟨⟨z0, z1, z2⟩, zl, zB⟩ := ST.out
  clear zl zB
  go_enter Tryd.func12, Tryd.ntmps12
  go_wp2
  go_ret
  exact ⟨rfl, ST.out.2.2⟩
theorem decimalNears_any (b : Bool) (s : ByteArray) (x n : Int) (w : World) (T : Tabs w) :
    Calls Tryd.prog 8 #[.agg #[.bool b, .string s, .int .i64 x], .int .i64 n] w fun e w' => e = .returned (.bool true) ∧ Below w.heap.size w w' := by
  by_cases hs : s.size ≤ 1000000
  case neg => exact near_not b s x n w T (Lib.hid (fun W => right_big b s x W (by omega)))
  cases hr : rightV s.data.toList x with
  | false => exact near_not b s x n w T (Lib.hid (fun W => by have := right_any b s x W hs; rw [hr] at this; exact this))
  | true =>
    by_cases n0 : n < -90000
    · exact near_low b s x n w T hs hr n0
    · by_cases n1 : 90000 < n
      · exact near_far b s x n w T hs hr n1
      · exact near_main b s x n w T hs hr n0 n1
end Go.Proofs.YtgjhpcmpgkfnkaaDoor
