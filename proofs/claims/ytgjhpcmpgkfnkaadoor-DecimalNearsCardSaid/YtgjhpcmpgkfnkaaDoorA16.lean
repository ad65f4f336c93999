/-
  Package decimal: Sig, Place: walked.
-/
import Derived.Test.YtgjhpcmpgkfnkaaDoorA15
namespace Go.Proofs.YtgjhpcmpgkfnkaaDoor
open Go.RowKit Go.Shelf

theorem rndV_parts (b : Bool) (s : ByteArray) (x n way : Int) : ∃ (c : Bool) (m : ByteArray) (y e : Int), rndV b s.data.toList x n way = (.agg #[.bool c, .string m, .int .i64 y], e) := by
  unfold rndV; split
  · exact ⟨_, _, _, _, rfl⟩
  · exact makeV_parts _ _ _
set_option maxRecDepth 100000 in
set_option maxHeartbeats 8000000 in
theorem sig_any (b : Bool) (s : ByteArray) (x n way : Int) (w : World) (hs : s.size ≤ 1000000) :
    Calls Tryd.prog 18 #[.agg #[.bool b, .string s, .int .i64 x], .int .i64 n, .int .i64 way] w (MakePost (sigV b s.data.toList x n way) w) := by
  have RA := Lib.hid (fun W => right_any b s x W hs)
  have IW := Lib.hid (fun W => isWay_any way W)
  have RD := Lib.hid (fun g h3 hw W => rounded_any b s x n way W hs g h3 hw)
  obtain ⟨c, q, y, er, hp⟩ := rndV_parts b s x n way
  rw [hp] at RD
  have E : Hid (sigV b s.data.toList x n way = if rightV s.data.toList x = true ∧ wayV way = true ∧ 1 ≤ n then rndV b s.data.toList x n way else (decV false [] 0, 1)) := rfl
  rw [hp] at E
  obtain ⟨v, hv⟩ : ∃ v, sigV b s.data.toList x n way = v := ⟨_, rfl⟩
  rw [hv] at E ⊢
  obtain ⟨r1, hr⟩ : ∃ r, rightV s.data.toList x = r := ⟨_, rfl⟩
  obtain ⟨r2, hr2⟩ : ∃ r, wayV way = r := ⟨_, rfl⟩
  rw [hr] at RA RD E; rw [hr2] at IW RD E
  clear hv hp hr hr2
  obtain ⟨W, hW, ⟨e0, e1, e2⟩, ⟨f0, f1, f2⟩, ff, hbW, sz⟩ := boxDW w b s x
  have KS : Hid (∀ A Z : World, ((A.cell? ⟨w.heap.size, 0, none⟩ = some (.bool b) ∧ A.cell? ⟨w.heap.size, 1, none⟩ = some (.string s) ∧ A.cell? ⟨w.heap.size, 2, none⟩ = some (.int .i64 x) ∧ A.cell? ⟨w.heap.size + 1, 0, none⟩ = some (.bool false) ∧ A.cell? ⟨w.heap.size + 1, 1, none⟩ = some (.string ⟨#[]⟩) ∧ A.cell? ⟨w.heap.size + 1, 2, none⟩ = some (.int .i64 0) ∧ A.frozen? ⟨w.heap.size + 1, 0, none⟩ = false ∧ A.frozen? ⟨w.heap.size + 1, 1, none⟩ = false ∧ A.frozen? ⟨w.heap.size + 1, 2, none⟩ = false) ∧ ((w.heap.size < A.heap.size ∧ w.heap.size + 1 < A.heap.size) ∧ Below w.heap.size w A)) → Below A.heap.size A Z → ((Z.cell? ⟨w.heap.size, 0, none⟩ = some (.bool b) ∧ Z.cell? ⟨w.heap.size, 1, none⟩ = some (.string s) ∧ Z.cell? ⟨w.heap.size, 2, none⟩ = some (.int .i64 x) ∧ Z.cell? ⟨w.heap.size + 1, 0, none⟩ = some (.bool false) ∧ Z.cell? ⟨w.heap.size + 1, 1, none⟩ = some (.string ⟨#[]⟩) ∧ Z.cell? ⟨w.heap.size + 1, 2, none⟩ = some (.int .i64 0) ∧ Z.frozen? ⟨w.heap.size + 1, 0, none⟩ = false ∧ Z.frozen? ⟨w.heap.size + 1, 1, none⟩ = false ∧ Z.frozen? ⟨w.heap.size + 1, 2, none⟩ = false) ∧ ((w.heap.size < Z.heap.size ∧ w.heap.size + 1 < Z.heap.size) ∧ Below w.heap.size w Z))) := by
    rintro A Z ⟨⟨h0, h1, h2, h3, h4, h5, h6, h7, h8⟩, ⟨l0, l1⟩, hb⟩ hx
    have hz := hx.size
    refine ⟨⟨(hx.cell (p := ⟨w.heap.size, 0, none⟩) l0).trans h0, (hx.cell (p := ⟨w.heap.size, 1, none⟩) l0).trans h1, (hx.cell (p := ⟨w.heap.size, 2, none⟩) l0).trans h2, (hx.cell (p := ⟨w.heap.size + 1, 0, none⟩) l1).trans h3, (hx.cell (p := ⟨w.heap.size + 1, 1, none⟩) l1).trans h4, (hx.cell (p := ⟨w.heap.size + 1, 2, none⟩) l1).trans h5, froz_onB h6 hx l1, froz_onB h7 hx l1, froz_onB h8 hx l1⟩, ⟨by omega, by omega⟩, via hb hx⟩
  have ST : Hid ((W.cell? ⟨w.heap.size, 0, none⟩ = some (.bool b) ∧ W.cell? ⟨w.heap.size, 1, none⟩ = some (.string s) ∧ W.cell? ⟨w.heap.size, 2, none⟩ = some (.int .i64 x) ∧ W.cell? ⟨w.heap.size + 1, 0, none⟩ = some (.bool false) ∧ W.cell? ⟨w.heap.size + 1, 1, none⟩ = some (.string ⟨#[]⟩) ∧ W.cell? ⟨w.heap.size + 1, 2, none⟩ = some (.int .i64 0) ∧ W.frozen? ⟨w.heap.size + 1, 0, none⟩ = false ∧ W.frozen? ⟨w.heap.size + 1, 1, none⟩ = false ∧ W.frozen? ⟨w.heap.size + 1, 2, none⟩ = false) ∧ ((w.heap.size < W.heap.size ∧ w.heap.size + 1 < W.heap.size) ∧ Below w.heap.size w W)) := ⟨⟨e0, e1, e2, f0, f1, f2, ff 0, ff 1, ff 2⟩, ⟨by omega, by omega⟩, hbW⟩
  clear hbW sz e0 e1 e2 f0 f1 f2 ff
  cases r1 with
  | false =>
    replace E := Lib.hid (E.out.trans (if_neg (by simp)))
    clear RD
    have A : Hid (v = (.agg #[.bool false, .string ⟨#[]⟩, .int .i64 0], 1)) := E.out
    clear E
    obtain ⟨⟨z0, z1, z2, z3, z4, z5, z6, z7, z8⟩, zl, zB⟩ := ST.out
    clear zl zB
    go_enter Tryd.func18, Tryd.ntmps18
    go_wp2_with fail
    refine (RA.out _).mono ?_
    rintro e w1x ⟨rfl, hb⟩
    have ST1 := Lib.hid (KS.out _ _ ST.out hb)
    clear hb
    clear z0 z1 z2 z3 z4 z5 z6 z7 z8
    obtain ⟨⟨z0, z1, z2, z3, z4, z5, z6, z7, z8⟩, zl, zB⟩ := ST1.out
    clear zl zB
    go_wp2
    refine bodyPost_ret (v := .tuple #[.agg #[.bool false, .string ⟨#[]⟩, .int .i64 0], .int .i64 1]) (by simp [results, Tryd.results18, go_sem, *]) rfl ⟨by rw [A.out] <;> rfl, ?_⟩
    have hB := ST1.out.2.2
    (repeat' first | exact Below.refl _ _ | assumption | refine Below.drew ?_ | refine Below.alloc ?_ ?_ _ | refine Below.setCell ?_ ?_ _ | refine below_drewN ?_ _ | (simp; done) | omega | (simp; omega))
  | true =>
    cases r2 with
    | false =>
      replace E := Lib.hid (E.out.trans (if_neg (by simp)))
      clear RD
      have A : Hid (v = (.agg #[.bool false, .string ⟨#[]⟩, .int .i64 0], 1)) := E.out
      clear E
      obtain ⟨⟨z0, z1, z2, z3, z4, z5, z6, z7, z8⟩, zl, zB⟩ := ST.out
      clear zl zB
      go_enter Tryd.func18, Tryd.ntmps18
      go_wp2_with fail
      refine (RA.out _).mono ?_
      rintro e w1x ⟨rfl, hb⟩
      have ST1 := Lib.hid (KS.out _ _ ST.out hb)
      clear hb
      clear z0 z1 z2 z3 z4 z5 z6 z7 z8
      obtain ⟨⟨z0, z1, z2, z3, z4, z5, z6, z7, z8⟩, zl, zB⟩ := ST1.out
      clear zl zB
      go_wp2_with fail
      refine (IW.out _).mono ?_
      rintro e w2x ⟨rfl, rfl⟩
      go_wp2
      refine bodyPost_ret (v := .tuple #[.agg #[.bool false, .string ⟨#[]⟩, .int .i64 0], .int .i64 1]) (by simp [results, Tryd.results18, go_sem, *]) rfl ⟨by rw [A.out] <;> rfl, ?_⟩
      have hB := ST1.out.2.2
      (repeat' first | exact Below.refl _ _ | assumption | refine Below.drew ?_ | refine Below.alloc ?_ ?_ _ | refine Below.setCell ?_ ?_ _ | refine below_drewN ?_ _ | (simp; done) | omega | (simp; omega))
    | true =>
      by_cases h1 : 1 ≤ n
      · replace E := Lib.hid (E.out.trans (if_pos ⟨rfl, rfl, h1⟩))
        replace RD := Lib.hid (fun W => RD.out rfl (by omega) rfl W)
        have h1q : ¬ n < 1 := by omega
        have A : Hid (v = (.agg #[.bool c, .string q, .int .i64 y], er)) := E.out
        clear E
        obtain ⟨⟨z0, z1, z2, z3, z4, z5, z6, z7, z8⟩, zl, zB⟩ := ST.out
        clear zl zB
        go_enter Tryd.func18, Tryd.ntmps18
        go_wp2_with fail
        refine (RA.out _).mono ?_
        rintro e w1x ⟨rfl, hb⟩
        have ST1 := Lib.hid (KS.out _ _ ST.out hb)
        clear hb
        clear z0 z1 z2 z3 z4 z5 z6 z7 z8
        obtain ⟨⟨z0, z1, z2, z3, z4, z5, z6, z7, z8⟩, zl, zB⟩ := ST1.out
        clear zl zB
        go_wp2_with fail
        refine (IW.out _).mono ?_
        rintro e w2x ⟨rfl, rfl⟩
        go_wp2_with fail
        refine (RD.out _).mono ?_
        rintro e w3x ⟨rfl, hb⟩
        have ST3 := Lib.hid (KS.out _ _ ST1.out hb)
        clear hb
        clear z0 z1 z2 z3 z4 z5 z6 z7 z8
        obtain ⟨⟨z0, z1, z2, z3, z4, z5, z6, z7, z8⟩, zl, zB⟩ := ST3.out
        clear zl zB
        go_wp2
        refine bodyPost_ret (v := .tuple #[.agg #[.bool c, .string q, .int .i64 y], .int .i64 er]) (by simp [results, Tryd.results18, go_sem, *]) rfl ⟨by rw [A.out] <;> rfl, ?_⟩
        have hB := ST3.out.2.2
        (repeat' first | exact Below.refl _ _ | assumption | refine Below.drew ?_ | refine Below.alloc ?_ ?_ _ | refine Below.setCell ?_ ?_ _ | refine below_drewN ?_ _ | (simp; done) | omega | (simp; omega))
      · replace E := Lib.hid (E.out.trans (if_neg (fun e => h1 e.2.2)))
        have h1q : n < 1 := by omega
        clear RD
        have A : Hid (v = (.agg #[.bool false, .string ⟨#[]⟩, .int .i64 0], 1)) := E.out
        clear E
        obtain ⟨⟨z0, z1, z2, z3, z4, z5, z6, z7, z8⟩, zl, zB⟩ := ST.out
        clear zl zB
        go_enter Tryd.func18, Tryd.ntmps18
        go_wp2_with fail
        refine (RA.out _).mono ?_
        rintro e w1x ⟨rfl, hb⟩
        have ST1 := Lib.hid (KS.out _ _ ST.out hb)
        clear hb
        clear z0 z1 z2 z3 z4 z5 z6 z7 z8
        obtain ⟨⟨z0, z1, z2, z3, z4, z5, z6, z7, z8⟩, zl, zB⟩ := ST1.out
        clear zl zB
        go_wp2_with fail
        refine (IW.out _).mono ?_
        rintro e w2x ⟨rfl, rfl⟩
        go_wp2
        refine bodyPost_ret (v := .tuple #[.agg #[.bool false, .string ⟨#[]⟩, .int .i64 0], .int .i64 1]) (by simp [results, Tryd.results18, go_sem, *]) rfl ⟨by rw [A.out] <;> rfl, ?_⟩
        have hB := ST1.out.2.2
        (repeat' first | exact Below.refl _ _ | assumption | refine Below.drew ?_ | refine Below.alloc ?_ ?_ _ | refine Below.setCell ?_ ?_ _ | refine below_drewN ?_ _ | (simp; done) | omega | (simp; omega))
set_option maxRecDepth 100000 in
set_option maxHeartbeats 8000000 in
theorem place_any (b : Bool) (s : ByteArray) (x n way : Int) (w : World) (hs : s.size ≤ 1000000) :
    Calls Tryd.prog 20 #[.agg #[.bool b, .string s, .int .i64 x], .int .i64 n, .int .i64 way] w (MakePost (placeV b s.data.toList x n way) w) := by
  have RA := Lib.hid (fun W => right_any b s x W hs)
  have IW := Lib.hid (fun W => isWay_any way W)
  have PT := Lib.hid (fun W => point_any b s x W hs)
  have pr := pointV_range s.data.toList x
  have RD := Lib.hid (fun N g h3 hw W => rounded_any b s x N way W hs g h3 hw)
  obtain ⟨p, hpp⟩ : ∃ p, pointV s.data.toList x = p := ⟨_, rfl⟩
  rw [hpp] at PT pr
  obtain ⟨c, q, y, er, hp⟩ := rndV_parts b s x (p + n) way
  have E : Hid (placeV b s.data.toList x n way = if rightV s.data.toList x = true ∧ wayV way = true ∧ -100000 ≤ n ∧ n ≤ 100000 then rndV b s.data.toList x (p + n) way else (decV false [] 0, 1)) := by unfold Hid placeV; rw [hpp]
  replace RD := Lib.hid (fun g h3 hw W => RD.out (p + n) g h3 hw W)
  rw [hp] at E RD
  obtain ⟨v, hv⟩ : ∃ v, placeV b s.data.toList x n way = v := ⟨_, rfl⟩
  rw [hv] at E ⊢
  obtain ⟨r1, hr⟩ : ∃ r, rightV s.data.toList x = r := ⟨_, rfl⟩
  obtain ⟨r2, hr2⟩ : ∃ r, wayV way = r := ⟨_, rfl⟩
  rw [hr] at RA RD E; rw [hr2] at IW RD E
  clear hv hp hr hr2 hpp
  obtain ⟨W, hW, ⟨e0, e1, e2⟩, ⟨f0, f1, f2⟩, ff, hbW, sz⟩ := boxDW w b s x
  have KS : Hid (∀ A Z : World, ((A.cell? ⟨w.heap.size, 0, none⟩ = some (.bool b) ∧ A.cell? ⟨w.heap.size, 1, none⟩ = some (.string s) ∧ A.cell? ⟨w.heap.size, 2, none⟩ = some (.int .i64 x) ∧ A.cell? ⟨w.heap.size + 1, 0, none⟩ = some (.bool false) ∧ A.cell? ⟨w.heap.size + 1, 1, none⟩ = some (.string ⟨#[]⟩) ∧ A.cell? ⟨w.heap.size + 1, 2, none⟩ = some (.int .i64 0) ∧ A.frozen? ⟨w.heap.size + 1, 0, none⟩ = false ∧ A.frozen? ⟨w.heap.size + 1, 1, none⟩ = false ∧ A.frozen? ⟨w.heap.size + 1, 2, none⟩ = false) ∧ ((w.heap.size < A.heap.size ∧ w.heap.size + 1 < A.heap.size) ∧ Below w.heap.size w A)) → Below A.heap.size A Z → ((Z.cell? ⟨w.heap.size, 0, none⟩ = some (.bool b) ∧ Z.cell? ⟨w.heap.size, 1, none⟩ = some (.string s) ∧ Z.cell? ⟨w.heap.size, 2, none⟩ = some (.int .i64 x) ∧ Z.cell? ⟨w.heap.size + 1, 0, none⟩ = some (.bool false) ∧ Z.cell? ⟨w.heap.size + 1, 1, none⟩ = some (.string ⟨#[]⟩) ∧ Z.cell? ⟨w.heap.size + 1, 2, none⟩ = some (.int .i64 0) ∧ Z.frozen? ⟨w.heap.size + 1, 0, none⟩ = false ∧ Z.frozen? ⟨w.heap.size + 1, 1, none⟩ = false ∧ Z.frozen? ⟨w.heap.size + 1, 2, none⟩ = false) ∧ ((w.heap.size < Z.heap.size ∧ w.heap.size + 1 < Z.heap.size) ∧ Below w.heap.size w Z))) := by
    rintro A Z ⟨⟨h0, h1, h2, h3, h4, h5, h6, h7, h8⟩, ⟨l0, l1⟩, hb⟩ hx
    have hz := hx.size
    refine ⟨⟨(hx.cell (p := ⟨w.heap.size, 0, none⟩) l0).trans h0, (hx.cell (p := ⟨w.heap.size, 1, none⟩) l0).trans h1, (hx.cell (p := ⟨w.heap.size, 2, none⟩) l0).trans h2, (hx.cell (p := ⟨w.heap.size + 1, 0, none⟩) l1).trans h3, (hx.cell (p := ⟨w.heap.size + 1, 1, none⟩) l1).trans h4, (hx.cell (p := ⟨w.heap.size + 1, 2, none⟩) l1).trans h5, froz_onB h6 hx l1, froz_onB h7 hx l1, froz_onB h8 hx l1⟩, ⟨by omega, by omega⟩, via hb hx⟩
  have ST : Hid ((W.cell? ⟨w.heap.size, 0, none⟩ = some (.bool b) ∧ W.cell? ⟨w.heap.size, 1, none⟩ = some (.string s) ∧ W.cell? ⟨w.heap.size, 2, none⟩ = some (.int .i64 x) ∧ W.cell? ⟨w.heap.size + 1, 0, none⟩ = some (.bool false) ∧ W.cell? ⟨w.heap.size + 1, 1, none⟩ = some (.string ⟨#[]⟩) ∧ W.cell? ⟨w.heap.size + 1, 2, none⟩ = some (.int .i64 0) ∧ W.frozen? ⟨w.heap.size + 1, 0, none⟩ = false ∧ W.frozen? ⟨w.heap.size + 1, 1, none⟩ = false ∧ W.frozen? ⟨w.heap.size + 1, 2, none⟩ = false) ∧ ((w.heap.size < W.heap.size ∧ w.heap.size + 1 < W.heap.size) ∧ Below w.heap.size w W)) := ⟨⟨e0, e1, e2, f0, f1, f2, ff 0, ff 1, ff 2⟩, ⟨by omega, by omega⟩, hbW⟩
  clear hbW sz e0 e1 e2 f0 f1 f2 ff
  cases r1 with
  | false =>
    replace E := Lib.hid (E.out.trans (if_neg (by simp)))
    clear RD
    have A : Hid (v = (.agg #[.bool false, .string ⟨#[]⟩, .int .i64 0], 1)) := E.out
    clear E
    obtain ⟨⟨z0, z1, z2, z3, z4, z5, z6, z7, z8⟩, zl, zB⟩ := ST.out
    clear zl zB
    go_enter Tryd.func20, Tryd.ntmps20
    go_wp2_with fail
    refine (RA.out _).mono ?_
    rintro e w1x ⟨rfl, hb⟩
    have ST1 := Lib.hid (KS.out _ _ ST.out hb)
    clear hb
    clear z0 z1 z2 z3 z4 z5 z6 z7 z8
    obtain ⟨⟨z0, z1, z2, z3, z4, z5, z6, z7, z8⟩, zl, zB⟩ := ST1.out
    clear zl zB
    go_wp2
    refine bodyPost_ret (v := .tuple #[.agg #[.bool false, .string ⟨#[]⟩, .int .i64 0], .int .i64 1]) (by simp [results, Tryd.results20, go_sem, *]) rfl ⟨by rw [A.out] <;> rfl, ?_⟩
    have hB := ST1.out.2.2
    (repeat' first | exact Below.refl _ _ | assumption | refine Below.drew ?_ | refine Below.alloc ?_ ?_ _ | refine Below.setCell ?_ ?_ _ | refine below_drewN ?_ _ | (simp; done) | omega | (simp; omega))
  | true =>
    cases r2 with
    | false =>
      replace E := Lib.hid (E.out.trans (if_neg (by simp)))
      clear RD
      have A : Hid (v = (.agg #[.bool false, .string ⟨#[]⟩, .int .i64 0], 1)) := E.out
      clear E
      obtain ⟨⟨z0, z1, z2, z3, z4, z5, z6, z7, z8⟩, zl, zB⟩ := ST.out
      clear zl zB
      go_enter Tryd.func20, Tryd.ntmps20
      go_wp2_with fail
      refine (RA.out _).mono ?_
      rintro e w1x ⟨rfl, hb⟩
      have ST1 := Lib.hid (KS.out _ _ ST.out hb)
      clear hb
      clear z0 z1 z2 z3 z4 z5 z6 z7 z8
      obtain ⟨⟨z0, z1, z2, z3, z4, z5, z6, z7, z8⟩, zl, zB⟩ := ST1.out
      clear zl zB
      go_wp2_with fail
      refine (IW.out _).mono ?_
      rintro e w2x ⟨rfl, rfl⟩
      go_wp2
      refine bodyPost_ret (v := .tuple #[.agg #[.bool false, .string ⟨#[]⟩, .int .i64 0], .int .i64 1]) (by simp [results, Tryd.results20, go_sem, *]) rfl ⟨by rw [A.out] <;> rfl, ?_⟩
      have hB := ST1.out.2.2
      (repeat' first | exact Below.refl _ _ | assumption | refine Below.drew ?_ | refine Below.alloc ?_ ?_ _ | refine Below.setCell ?_ ?_ _ | refine below_drewN ?_ _ | (simp; done) | omega | (simp; omega))
    | true =>
      by_cases h1 : -100000 ≤ n
      · have h1q : ¬ n < -100000 := by omega
        by_cases h2 : n ≤ 100000
        · have h2q : ¬ 100000 < n := by omega
          replace E := Lib.hid (E.out.trans (if_pos ⟨rfl, rfl, h1, h2⟩))
          have a1 : IntKind.i64.wrap (p + n) = p + n := by rw [IntKind.wrap_i64]; omega
          replace RD := Lib.hid (fun W => RD.out rfl (by omega) rfl W)
          have A : Hid (v = (.agg #[.bool c, .string q, .int .i64 y], er)) := E.out
          clear E
          obtain ⟨⟨z0, z1, z2, z3, z4, z5, z6, z7, z8⟩, zl, zB⟩ := ST.out
          clear zl zB
          go_enter Tryd.func20, Tryd.ntmps20
          go_wp2_with fail
          refine (RA.out _).mono ?_
          rintro e w1x ⟨rfl, hb⟩
          have ST1 := Lib.hid (KS.out _ _ ST.out hb)
          clear hb
          clear z0 z1 z2 z3 z4 z5 z6 z7 z8
          obtain ⟨⟨z0, z1, z2, z3, z4, z5, z6, z7, z8⟩, zl, zB⟩ := ST1.out
          clear zl zB
          go_wp2_with fail
          refine (IW.out _).mono ?_
          rintro e w2x ⟨rfl, rfl⟩
          go_upto_region 3 with fail
          clear z0 z1 z2 z3 z4 z5 z6 z7 z8
          obtain ⟨⟨z0, z1, z2, z3, z4, z5, z6, z7, z8⟩, zl, zB⟩ := ST1.out
          clear zl zB
          go_region_with ((first | (go_at_call 14; refine (PT.out _).mono ?_; rintro e wz ⟨rfl, hbz⟩; have STz : Hid ((wz.cell? ⟨w.heap.size, 0, none⟩ = some (.bool b) ∧ wz.cell? ⟨w.heap.size, 1, none⟩ = some (.string s) ∧ wz.cell? ⟨w.heap.size, 2, none⟩ = some (.int .i64 x) ∧ wz.cell? ⟨w.heap.size + 1, 0, none⟩ = some (.bool false) ∧ wz.cell? ⟨w.heap.size + 1, 1, none⟩ = some (.string ⟨#[]⟩) ∧ wz.cell? ⟨w.heap.size + 1, 2, none⟩ = some (.int .i64 0) ∧ wz.frozen? ⟨w.heap.size + 1, 0, none⟩ = false ∧ wz.frozen? ⟨w.heap.size + 1, 1, none⟩ = false ∧ wz.frozen? ⟨w.heap.size + 1, 2, none⟩ = false) ∧ ((w.heap.size < wz.heap.size ∧ w.heap.size + 1 < wz.heap.size) ∧ Below w.heap.size w wz)) := KS.out w1x.drew wz ⟨ST1.out.1, ST1.out.2.1, ST1.out.2.2.drew⟩ hbz; obtain ⟨⟨y0, y1, y2, y3, y4, y5, y6, y7, y8⟩, yl, yB⟩ := STz.out; clear yl yB hbz) | (go_at_call 35; refine (RD.out _).mono ?_; rintro e wy ⟨rfl, hby⟩; have STy : Hid ((wy.cell? ⟨w.heap.size, 0, none⟩ = some (.bool b) ∧ wy.cell? ⟨w.heap.size, 1, none⟩ = some (.string s) ∧ wy.cell? ⟨w.heap.size, 2, none⟩ = some (.int .i64 x) ∧ wy.cell? ⟨w.heap.size + 1, 0, none⟩ = some (.bool false) ∧ wy.cell? ⟨w.heap.size + 1, 1, none⟩ = some (.string ⟨#[]⟩) ∧ wy.cell? ⟨w.heap.size + 1, 2, none⟩ = some (.int .i64 0) ∧ wy.frozen? ⟨w.heap.size + 1, 0, none⟩ = false ∧ wy.frozen? ⟨w.heap.size + 1, 1, none⟩ = false ∧ wy.frozen? ⟨w.heap.size + 1, 2, none⟩ = false) ∧ ((w.heap.size < wy.heap.size ∧ w.heap.size + 1 < wy.heap.size) ∧ Below w.heap.size w wy)) := KS.out wz wy STz.out hby; obtain ⟨⟨x0, x1, x2, x3, x4, x5, x6, x7, x8⟩, xl, xB⟩ := STy.out; clear xl xB hby y0 y1 y2 y3 y4 y5 y6 y7 y8)))
          all_goals
            go_wp2
            refine bodyPost_ret (v := .tuple #[.agg #[.bool c, .string q, .int .i64 y], .int .i64 er]) (by simp [results, Tryd.results20, go_sem, *]) rfl ⟨by rw [A.out] <;> rfl, ?_⟩
            have hB := STy.out.2.2
            (repeat' first | exact Below.refl _ _ | assumption | refine Below.drew ?_ | refine Below.alloc ?_ ?_ _ | refine Below.setCell ?_ ?_ _ | refine below_drewN ?_ _ | (simp; done) | omega | (simp; omega))
        · have h2q : 100000 < n := by omega
          replace E := Lib.hid (E.out.trans (if_neg (fun e => h2 e.2.2.2)))
          clear RD
          have A : Hid (v = (.agg #[.bool false, .string ⟨#[]⟩, .int .i64 0], 1)) := E.out
          clear E
          obtain ⟨⟨z0, z1, z2, z3, z4, z5, z6, z7, z8⟩, zl, zB⟩ := ST.out
          clear zl zB
          go_enter Tryd.func20, Tryd.ntmps20
          go_wp2_with fail
          refine (RA.out _).mono ?_
          rintro e w1x ⟨rfl, hb⟩
          have ST1 := Lib.hid (KS.out _ _ ST.out hb)
          clear hb
          clear z0 z1 z2 z3 z4 z5 z6 z7 z8
          obtain ⟨⟨z0, z1, z2, z3, z4, z5, z6, z7, z8⟩, zl, zB⟩ := ST1.out
          clear zl zB
          go_wp2_with fail
          refine (IW.out _).mono ?_
          rintro e w2x ⟨rfl, rfl⟩
          go_wp2
          refine bodyPost_ret (v := .tuple #[.agg #[.bool false, .string ⟨#[]⟩, .int .i64 0], .int .i64 1]) (by simp [results, Tryd.results20, go_sem, *]) rfl ⟨by rw [A.out] <;> rfl, ?_⟩
          have hB := ST1.out.2.2
          (repeat' first | exact Below.refl _ _ | assumption | refine Below.drew ?_ | refine Below.alloc ?_ ?_ _ | refine Below.setCell ?_ ?_ _ | refine below_drewN ?_ _ | (simp; done) | omega | (simp; omega))
      · replace E := Lib.hid (E.out.trans (if_neg (fun e => h1 e.2.2.1)))
        have h1q : n < -100000 := by omega
        clear RD
        have A : Hid (v = (.agg #[.bool false, .string ⟨#[]⟩, .int .i64 0], 1)) := E.out
        clear E
        obtain ⟨⟨z0, z1, z2, z3, z4, z5, z6, z7, z8⟩, zl, zB⟩ := ST.out
        clear zl zB
        go_enter Tryd.func20, Tryd.ntmps20
        go_wp2_with fail
        refine (RA.out _).mono ?_
        rintro e w1x ⟨rfl, hb⟩
        have ST1 := Lib.hid (KS.out _ _ ST.out hb)
        clear hb
        clear z0 z1 z2 z3 z4 z5 z6 z7 z8
        obtain ⟨⟨z0, z1, z2, z3, z4, z5, z6, z7, z8⟩, zl, zB⟩ := ST1.out
        clear zl zB
        go_wp2_with fail
        refine (IW.out _).mono ?_
        rintro e w2x ⟨rfl, rfl⟩
        go_wp2
        refine bodyPost_ret (v := .tuple #[.agg #[.bool false, .string ⟨#[]⟩, .int .i64 0], .int .i64 1]) (by simp [results, Tryd.results20, go_sem, *]) rfl ⟨by rw [A.out] <;> rfl, ?_⟩
        have hB := ST1.out.2.2
        (repeat' first | exact Below.refl _ _ | assumption | refine Below.drew ?_ | refine Below.alloc ?_ ?_ _ | refine Below.setCell ?_ ?_ _ | refine below_drewN ?_ _ | (simp; done) | omega | (simp; omega))
end Go.Proofs.YtgjhpcmpgkfnkaaDoor
