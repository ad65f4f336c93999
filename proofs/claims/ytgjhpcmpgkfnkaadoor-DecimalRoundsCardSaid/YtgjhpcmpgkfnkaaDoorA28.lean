/-
  The document's decimals: Sig, Place: walked.
-/
import Derived.Test.YtgjhpcmpgkfnkaaDoorA27
namespace Go.Proofs.YtgjhpcmpgkfnkaaDoor
open Go.RowKit Go.Shelf

theorem wayV_t {way : Int} (h0 : 0 ≤ way) (h1 : way ≤ 5) : wayV way = true := decide_eq_true ⟨h0, h1⟩
theorem wayV_f {way : Int} (h : ¬ (0 ≤ way ∧ way ≤ 5)) : wayV way = false := decide_eq_false h
set_option maxRecDepth 100000 in
set_option maxHeartbeats 8000000 in
theorem rsig_any (b : Bool) (s : ByteArray) (x n way : Int) (w : World) (hs : s.size ≤ 1000000) :
    Calls Tryd.prog 19 #[.agg #[.bool b, .string s, .int .i64 x], .int .i64 n, .int .i64 way] w (MakePost (sigV b s.data.toList x n way) w) := by
  have RA := Lib.hid (fun W => rright_any b s x W hs)
  have SZ := bytes_size s
  have RV : Hid (∀ n, rndV b s.data.toList x n way = if (s.data.toList.length : Int) ≤ n ∨ s.data.toList = [] then (.agg #[.bool b, .string s, .int .i64 x], 0) else makeV b (newV b s.data.toList n way) (x + s.data.toList.length - n)) := fun _ => rfl
  have CU := Lib.hid (fun (m : Nat) W gr hm hw => cut_any b s x m way W gr hm hw)
  have E : Hid (sigV b s.data.toList x n way = if rightV s.data.toList x = true ∧ wayV way = true ∧ 1 ≤ n then rndV b s.data.toList x n way else (decV false [] 0, 1)) := rfl
  have RP : ∃ (c : Bool) (q : ByteArray) (y e : Int), rndV b s.data.toList x n way = (.agg #[.bool c, .string q, .int .i64 y], e) := rndV_parts b s x n way
  obtain ⟨v, hv⟩ : ∃ v, sigV b s.data.toList x n way = v := ⟨_, rfl⟩
  rw [hv] at E ⊢
  clear hv
  obtain ⟨W, hW, ⟨e0, e1, e2⟩, ⟨f0, f1, f2⟩, ff, hbW, sz⟩ := boxDW w b s x
  have KS : Hid (∀ A Z : World, ((A.cell? ⟨w.heap.size, 0, none⟩ = some (.bool b) ∧ A.cell? ⟨w.heap.size, 1, none⟩ = some (.string s) ∧ A.cell? ⟨w.heap.size, 2, none⟩ = some (.int .i64 x) ∧ A.cell? ⟨w.heap.size + 1, 0, none⟩ = some (.bool false) ∧ A.cell? ⟨w.heap.size + 1, 1, none⟩ = some (.string ⟨#[]⟩) ∧ A.cell? ⟨w.heap.size + 1, 2, none⟩ = some (.int .i64 0) ∧ A.frozen? ⟨w.heap.size + 1, 0, none⟩ = false ∧ A.frozen? ⟨w.heap.size + 1, 1, none⟩ = false ∧ A.frozen? ⟨w.heap.size + 1, 2, none⟩ = false) ∧ ((w.heap.size < A.heap.size ∧ w.heap.size + 1 < A.heap.size) ∧ Below w.heap.size w A)) → Below A.heap.size A Z → ((Z.cell? ⟨w.heap.size, 0, none⟩ = some (.bool b) ∧ Z.cell? ⟨w.heap.size, 1, none⟩ = some (.string s) ∧ Z.cell? ⟨w.heap.size, 2, none⟩ = some (.int .i64 x) ∧ Z.cell? ⟨w.heap.size + 1, 0, none⟩ = some (.bool false) ∧ Z.cell? ⟨w.heap.size + 1, 1, none⟩ = some (.string ⟨#[]⟩) ∧ Z.cell? ⟨w.heap.size + 1, 2, none⟩ = some (.int .i64 0) ∧ Z.frozen? ⟨w.heap.size + 1, 0, none⟩ = false ∧ Z.frozen? ⟨w.heap.size + 1, 1, none⟩ = false ∧ Z.frozen? ⟨w.heap.size + 1, 2, none⟩ = false) ∧ ((w.heap.size < Z.heap.size ∧ w.heap.size + 1 < Z.heap.size) ∧ Below w.heap.size w Z))) := by
    rintro A Z ⟨⟨h0, h1, h2, h3, h4, h5, h6, h7, h8⟩, ⟨l0, l1⟩, hb⟩ hx
    have hz := hx.size
    refine ⟨⟨(hx.cell (p := ⟨w.heap.size, 0, none⟩) l0).trans h0, (hx.cell (p := ⟨w.heap.size, 1, none⟩) l0).trans h1, (hx.cell (p := ⟨w.heap.size, 2, none⟩) l0).trans h2, (hx.cell (p := ⟨w.heap.size + 1, 0, none⟩) l1).trans h3, (hx.cell (p := ⟨w.heap.size + 1, 1, none⟩) l1).trans h4, (hx.cell (p := ⟨w.heap.size + 1, 2, none⟩) l1).trans h5, froz_onB h6 hx l1, froz_onB h7 hx l1, froz_onB h8 hx l1⟩, ⟨by omega, by omega⟩, via hb hx⟩
  have ST : Hid ((W.cell? ⟨w.heap.size, 0, none⟩ = some (.bool b) ∧ W.cell? ⟨w.heap.size, 1, none⟩ = some (.string s) ∧ W.cell? ⟨w.heap.size, 2, none⟩ = some (.int .i64 x) ∧ W.cell? ⟨w.heap.size + 1, 0, none⟩ = some (.bool false) ∧ W.cell? ⟨w.heap.size + 1, 1, none⟩ = some (.string ⟨#[]⟩) ∧ W.cell? ⟨w.heap.size + 1, 2, none⟩ = some (.int .i64 0) ∧ W.frozen? ⟨w.heap.size + 1, 0, none⟩ = false ∧ W.frozen? ⟨w.heap.size + 1, 1, none⟩ = false ∧ W.frozen? ⟨w.heap.size + 1, 2, none⟩ = false) ∧ ((w.heap.size < W.heap.size ∧ w.heap.size + 1 < W.heap.size) ∧ Below w.heap.size w W)) := ⟨⟨e0, e1, e2, f0, f1, f2, ff 0, ff 1, ff 2⟩, ⟨by omega, by omega⟩, hbW⟩
  clear hbW sz e0 e1 e2 f0 f1 f2 ff
  cases hr : rightV s.data.toList x with
  | false =>
    have A : Hid (v = (decV false [] 0, 1)) := by unfold Hid; rw [E.out, if_neg (fun e => by rw [hr] at e; exact absurd e.1 (by simp))]
    rw [hr] at RA
    clear E CU RP SZ hr
    clear RV
    obtain ⟨⟨z0, z1, z2, z3, z4, z5, z6, z7, z8⟩, zl, zB⟩ := ST.out
    clear zl zB
    go_enter Tryd.func19, Tryd.ntmps19
    go_wp2_with fail
    refine (RA.out _).mono ?_
    rintro e w1x ⟨rfl, hb⟩
    have ST1 := Lib.hid (KS.out _ _ ST.out hb)
    clear hb
    clear z0 z1 z2 z3 z4 z5 z6 z7 z8
    obtain ⟨⟨z0, z1, z2, z3, z4, z5, z6, z7, z8⟩, zl, zB⟩ := ST1.out
    clear zl zB
    go_wp2
    refine bodyPost_ret (v := .tuple #[.agg #[.bool false, .string ⟨#[]⟩, .int .i64 0], .int .i64 1]) (by simp [results, Tryd.results19, go_sem, *]) rfl ⟨by rw [A.out] <;> rfl, ?_⟩
    have hB := ST1.out.2.2
    (repeat' first | exact Below.refl _ _ | assumption | refine Below.drew ?_ | refine Below.alloc ?_ ?_ _ | refine Below.setCell ?_ ?_ _ | refine below_drewN ?_ _ | (simp; done) | omega | (simp; omega))
  | true =>
    by_cases h1 : 0 ≤ way
    · by_cases h2 : way ≤ 5
      · by_cases h3 : 1 ≤ n
        · have h1q : ¬ way < 0 := by omega
          have h2q : ¬ 5 < way := by omega
          have h3q : ¬ n < 1 := by omega
          replace E := Lib.hid (E.out.trans (if_pos ⟨hr, wayV_t h1 h2, h3⟩))
          by_cases h4 : (s.size : Int) ≤ n
          · have A : Hid (v = (.agg #[.bool b, .string s, .int .i64 x], 0)) := by unfold Hid; rw [E.out, RV.out, if_pos (Or.inl (by rw [← SZ]; exact h4))]
            rw [hr] at RA
            clear E CU RP SZ hr RV
            obtain ⟨⟨z0, z1, z2, z3, z4, z5, z6, z7, z8⟩, zl, zB⟩ := ST.out
            clear zl zB
            go_enter Tryd.func19, Tryd.ntmps19
            go_wp2_with fail
            refine (RA.out _).mono ?_
            rintro e w1x ⟨rfl, hb⟩
            have ST1 := Lib.hid (KS.out _ _ ST.out hb)
            clear hb
            clear z0 z1 z2 z3 z4 z5 z6 z7 z8
            obtain ⟨⟨z0, z1, z2, z3, z4, z5, z6, z7, z8⟩, zl, zB⟩ := ST1.out
            clear zl zB
            go_wp2
            refine bodyPost_ret (v := .tuple #[.agg #[.bool b, .string s, .int .i64 x], .int .i64 0]) (by simp [results, Tryd.results19, go_sem, *]) rfl ⟨by rw [A.out] <;> rfl, ?_⟩
            have hB := ST1.out.2.2
            (repeat' first | exact Below.refl _ _ | assumption | refine Below.drew ?_ | refine Below.alloc ?_ ?_ _ | refine Below.setCell ?_ ?_ _ | refine below_drewN ?_ _ | (simp; done) | omega | (simp; omega))
          · obtain ⟨m, rfl⟩ : ∃ m : Nat, n = (m : Int) := ⟨n.toNat, by omega⟩
            obtain ⟨c, q, y, er, hp⟩ := RP
            have CC := Lib.hid (fun W => CU.out m W hr (by omega) (wayV_t h1 h2))
            rw [hp] at CC
            have A : Hid (v = (.agg #[.bool c, .string q, .int .i64 y], er)) := E.out.trans hp
            rw [hr] at RA
            clear E CU SZ hr RV hp
            obtain ⟨⟨z0, z1, z2, z3, z4, z5, z6, z7, z8⟩, zl, zB⟩ := ST.out
            clear zl zB
            go_enter Tryd.func19, Tryd.ntmps19
            go_wp2_with fail
            refine (RA.out _).mono ?_
            rintro e w1x ⟨rfl, hb⟩
            have ST1 := Lib.hid (KS.out _ _ ST.out hb)
            clear hb
            clear z0 z1 z2 z3 z4 z5 z6 z7 z8
            obtain ⟨⟨z0, z1, z2, z3, z4, z5, z6, z7, z8⟩, zl, zB⟩ := ST1.out
            clear zl zB
            go_wp2_with fail
            refine (CC.out _).mono ?_
            rintro e w2x ⟨rfl, hb⟩
            have ST2 := Lib.hid (KS.out _ _ ST1.out hb)
            clear hb
            clear z0 z1 z2 z3 z4 z5 z6 z7 z8
            obtain ⟨⟨z0, z1, z2, z3, z4, z5, z6, z7, z8⟩, zl, zB⟩ := ST2.out
            clear zl zB
            go_wp2
            refine bodyPost_ret (v := .tuple #[.agg #[.bool c, .string q, .int .i64 y], .int .i64 er]) (by simp [results, Tryd.results19, go_sem, *]) rfl ⟨by rw [A.out] <;> rfl, ?_⟩
            have hB := ST2.out.2.2
            (repeat' first | exact Below.refl _ _ | assumption | refine Below.drew ?_ | refine Below.alloc ?_ ?_ _ | refine Below.setCell ?_ ?_ _ | refine below_drewN ?_ _ | (simp; done) | omega | (simp; omega))
        · have h1q : ¬ way < 0 := by omega
          have h2q : ¬ 5 < way := by omega
          have h3q : n < 1 := by omega
          have A : Hid (v = (decV false [] 0, 1)) := by unfold Hid; rw [E.out, if_neg (fun e => h3 e.2.2)]
          rw [hr] at RA
          clear E CU RP SZ hr
          clear RV
          obtain ⟨⟨z0, z1, z2, z3, z4, z5, z6, z7, z8⟩, zl, zB⟩ := ST.out
          clear zl zB
          go_enter Tryd.func19, Tryd.ntmps19
          go_wp2_with fail
          refine (RA.out _).mono ?_
          rintro e w1x ⟨rfl, hb⟩
          have ST1 := Lib.hid (KS.out _ _ ST.out hb)
          clear hb
          clear z0 z1 z2 z3 z4 z5 z6 z7 z8
          obtain ⟨⟨z0, z1, z2, z3, z4, z5, z6, z7, z8⟩, zl, zB⟩ := ST1.out
          clear zl zB
          go_wp2
          refine bodyPost_ret (v := .tuple #[.agg #[.bool false, .string ⟨#[]⟩, .int .i64 0], .int .i64 1]) (by simp [results, Tryd.results19, go_sem, *]) rfl ⟨by rw [A.out] <;> rfl, ?_⟩
          have hB := ST1.out.2.2
          (repeat' first | exact Below.refl _ _ | assumption | refine Below.drew ?_ | refine Below.alloc ?_ ?_ _ | refine Below.setCell ?_ ?_ _ | refine below_drewN ?_ _ | (simp; done) | omega | (simp; omega))
      · have h1q : ¬ way < 0 := by omega
        have h2q : 5 < way := by omega
        have A : Hid (v = (decV false [] 0, 1)) := by unfold Hid; rw [E.out, if_neg (fun e => by have := of_decide_eq_true e.2.1; omega)]
        rw [hr] at RA
        clear E CU RP SZ hr
        clear RV
        obtain ⟨⟨z0, z1, z2, z3, z4, z5, z6, z7, z8⟩, zl, zB⟩ := ST.out
        clear zl zB
        go_enter Tryd.func19, Tryd.ntmps19
        go_wp2_with fail
        refine (RA.out _).mono ?_
        rintro e w1x ⟨rfl, hb⟩
        have ST1 := Lib.hid (KS.out _ _ ST.out hb)
        clear hb
        clear z0 z1 z2 z3 z4 z5 z6 z7 z8
        obtain ⟨⟨z0, z1, z2, z3, z4, z5, z6, z7, z8⟩, zl, zB⟩ := ST1.out
        clear zl zB
        go_wp2
        refine bodyPost_ret (v := .tuple #[.agg #[.bool false, .string ⟨#[]⟩, .int .i64 0], .int .i64 1]) (by simp [results, Tryd.results19, go_sem, *]) rfl ⟨by rw [A.out] <;> rfl, ?_⟩
        have hB := ST1.out.2.2
        (repeat' first | exact Below.refl _ _ | assumption | refine Below.drew ?_ | refine Below.alloc ?_ ?_ _ | refine Below.setCell ?_ ?_ _ | refine below_drewN ?_ _ | (simp; done) | omega | (simp; omega))
    · have h1q : way < 0 := by omega
      have A : Hid (v = (decV false [] 0, 1)) := by unfold Hid; rw [E.out, if_neg (fun e => by have := of_decide_eq_true e.2.1; omega)]
      rw [hr] at RA
      clear E CU RP SZ hr
      clear RV
      obtain ⟨⟨z0, z1, z2, z3, z4, z5, z6, z7, z8⟩, zl, zB⟩ := ST.out
      clear zl zB
      go_enter Tryd.func19, Tryd.ntmps19
      go_wp2_with fail
      refine (RA.out _).mono ?_
      rintro e w1x ⟨rfl, hb⟩
      have ST1 := Lib.hid (KS.out _ _ ST.out hb)
      clear hb
      clear z0 z1 z2 z3 z4 z5 z6 z7 z8
      obtain ⟨⟨z0, z1, z2, z3, z4, z5, z6, z7, z8⟩, zl, zB⟩ := ST1.out
      clear zl zB
      go_wp2
      refine bodyPost_ret (v := .tuple #[.agg #[.bool false, .string ⟨#[]⟩, .int .i64 0], .int .i64 1]) (by simp [results, Tryd.results19, go_sem, *]) rfl ⟨by rw [A.out] <;> rfl, ?_⟩
      have hB := ST1.out.2.2
      (repeat' first | exact Below.refl _ _ | assumption | refine Below.drew ?_ | refine Below.alloc ?_ ?_ _ | refine Below.setCell ?_ ?_ _ | refine below_drewN ?_ _ | (simp; done) | omega | (simp; omega))
set_option maxRecDepth 100000 in
set_option maxHeartbeats 8000000 in
theorem rplace_any (b : Bool) (s : ByteArray) (x n way : Int) (w : World) (hs : s.size ≤ 1000000) :
    Calls Tryd.prog 21 #[.agg #[.bool b, .string s, .int .i64 x], .int .i64 n, .int .i64 way] w (MakePost (placeV b s.data.toList x n way) w) := by
  have RA := Lib.hid (fun W => rright_any b s x W hs)
  have SZ := bytes_size s
  have RV : Hid (∀ n, rndV b s.data.toList x n way = if (s.data.toList.length : Int) ≤ n ∨ s.data.toList = [] then (.agg #[.bool b, .string s, .int .i64 x], 0) else makeV b (newV b s.data.toList n way) (x + s.data.toList.length - n)) := fun _ => rfl
  have CU := Lib.hid (fun (m : Nat) W gr hm hw => cut_any b s x m way W gr hm hw)
  have PT := Lib.hid (fun W => rpoint_any b s x W hs)
  have E : Hid (placeV b s.data.toList x n way = if rightV s.data.toList x = true ∧ wayV way = true ∧ -100000 ≤ n ∧ n ≤ 100000 then rndV b s.data.toList x (pointV s.data.toList x + n) way else (decV false [] 0, 1)) := rfl
  obtain ⟨p, hp0⟩ : ∃ p, pointV s.data.toList x = p := ⟨_, rfl⟩
  have RP : ∃ (c : Bool) (q : ByteArray) (y e : Int), rndV b s.data.toList x (p + n) way = (.agg #[.bool c, .string q, .int .i64 y], e) := rndV_parts b s x (p + n) way
  have pr := pointV_range s.data.toList x
  have PV : rightV s.data.toList x = true → p = (s.size : Int) + x := fun h => by rw [← hp0, SZ]; exact if_pos h
  rw [hp0] at PT E pr
  obtain ⟨v, hv⟩ : ∃ v, placeV b s.data.toList x n way = v := ⟨_, rfl⟩
  rw [hv] at E ⊢
  clear hv hp0
  obtain ⟨W, hW, ⟨e0, e1, e2⟩, ⟨f0, f1, f2⟩, ff, hbW, sz⟩ := boxDW w b s x
  have KS : Hid (∀ A Z : World, ((A.cell? ⟨w.heap.size, 0, none⟩ = some (.bool b) ∧ A.cell? ⟨w.heap.size, 1, none⟩ = some (.string s) ∧ A.cell? ⟨w.heap.size, 2, none⟩ = some (.int .i64 x) ∧ A.cell? ⟨w.heap.size + 1, 0, none⟩ = some (.bool false) ∧ A.cell? ⟨w.heap.size + 1, 1, none⟩ = some (.string ⟨#[]⟩) ∧ A.cell? ⟨w.heap.size + 1, 2, none⟩ = some (.int .i64 0) ∧ A.frozen? ⟨w.heap.size + 1, 0, none⟩ = false ∧ A.frozen? ⟨w.heap.size + 1, 1, none⟩ = false ∧ A.frozen? ⟨w.heap.size + 1, 2, none⟩ = false) ∧ ((w.heap.size < A.heap.size ∧ w.heap.size + 1 < A.heap.size) ∧ Below w.heap.size w A)) → Below A.heap.size A Z → ((Z.cell? ⟨w.heap.size, 0, none⟩ = some (.bool b) ∧ Z.cell? ⟨w.heap.size, 1, none⟩ = some (.string s) ∧ Z.cell? ⟨w.heap.size, 2, none⟩ = some (.int .i64 x) ∧ Z.cell? ⟨w.heap.size + 1, 0, none⟩ = some (.bool false) ∧ Z.cell? ⟨w.heap.size + 1, 1, none⟩ = some (.string ⟨#[]⟩) ∧ Z.cell? ⟨w.heap.size + 1, 2, none⟩ = some (.int .i64 0) ∧ Z.frozen? ⟨w.heap.size + 1, 0, none⟩ = false ∧ Z.frozen? ⟨w.heap.size + 1, 1, none⟩ = false ∧ Z.frozen? ⟨w.heap.size + 1, 2, none⟩ = false) ∧ ((w.heap.size < Z.heap.size ∧ w.heap.size + 1 < Z.heap.size) ∧ Below w.heap.size w Z))) := by
    rintro A Z ⟨⟨h0, h1, h2, h3, h4, h5, h6, h7, h8⟩, ⟨l0, l1⟩, hb⟩ hx
    have hz := hx.size
    refine ⟨⟨(hx.cell (p := ⟨w.heap.size, 0, none⟩) l0).trans h0, (hx.cell (p := ⟨w.heap.size, 1, none⟩) l0).trans h1, (hx.cell (p := ⟨w.heap.size, 2, none⟩) l0).trans h2, (hx.cell (p := ⟨w.heap.size + 1, 0, none⟩) l1).trans h3, (hx.cell (p := ⟨w.heap.size + 1, 1, none⟩) l1).trans h4, (hx.cell (p := ⟨w.heap.size + 1, 2, none⟩) l1).trans h5, froz_onB h6 hx l1, froz_onB h7 hx l1, froz_onB h8 hx l1⟩, ⟨by omega, by omega⟩, via hb hx⟩
  have ST : Hid ((W.cell? ⟨w.heap.size, 0, none⟩ = some (.bool b) ∧ W.cell? ⟨w.heap.size, 1, none⟩ = some (.string s) ∧ W.cell? ⟨w.heap.size, 2, none⟩ = some (.int .i64 x) ∧ W.cell? ⟨w.heap.size + 1, 0, none⟩ = some (.bool false) ∧ W.cell? ⟨w.heap.size + 1, 1, none⟩ = some (.string ⟨#[]⟩) ∧ W.cell? ⟨w.heap.size + 1, 2, none⟩ = some (.int .i64 0) ∧ W.frozen? ⟨w.heap.size + 1, 0, none⟩ = false ∧ W.frozen? ⟨w.heap.size + 1, 1, none⟩ = false ∧ W.frozen? ⟨w.heap.size + 1, 2, none⟩ = false) ∧ ((w.heap.size < W.heap.size ∧ w.heap.size + 1 < W.heap.size) ∧ Below w.heap.size w W)) := ⟨⟨e0, e1, e2, f0, f1, f2, ff 0, ff 1, ff 2⟩, ⟨by omega, by omega⟩, hbW⟩
  clear hbW sz e0 e1 e2 f0 f1 f2 ff
  cases hr : rightV s.data.toList x with
  | false =>
    have A : Hid (v = (decV false [] 0, 1)) := by unfold Hid; rw [E.out, if_neg (fun e => by rw [hr] at e; exact absurd e.1 (by simp))]
    rw [hr] at RA
    clear E CU RP SZ hr PV PT
    clear RV
    obtain ⟨⟨z0, z1, z2, z3, z4, z5, z6, z7, z8⟩, zl, zB⟩ := ST.out
    clear zl zB
    go_enter Tryd.func21, Tryd.ntmps21
    go_wp2_with fail
    refine (RA.out _).mono ?_
    rintro e w1x ⟨rfl, hb⟩
    have ST1 := Lib.hid (KS.out _ _ ST.out hb)
    clear hb
    clear z0 z1 z2 z3 z4 z5 z6 z7 z8
    obtain ⟨⟨z0, z1, z2, z3, z4, z5, z6, z7, z8⟩, zl, zB⟩ := ST1.out
    clear zl zB
    go_wp2
    refine bodyPost_ret (v := .tuple #[.agg #[.bool false, .string ⟨#[]⟩, .int .i64 0], .int .i64 1]) (by simp [results, Tryd.results21, go_sem, *]) rfl ⟨by rw [A.out] <;> rfl, ?_⟩
    have hB := ST1.out.2.2
    (repeat' first | exact Below.refl _ _ | assumption | refine Below.drew ?_ | refine Below.alloc ?_ ?_ _ | refine Below.setCell ?_ ?_ _ | refine below_drewN ?_ _ | (simp; done) | omega | (simp; omega))
  | true =>
    by_cases h1 : 0 ≤ way
    · by_cases h2 : way ≤ 5
      · by_cases h3 : -100000 ≤ n
        · by_cases h4 : n ≤ 100000
          · have h1q : ¬ way < 0 := by omega
            have h2q : ¬ 5 < way := by omega
            have h3q : ¬ n < -100000 := by omega
            have h4q : ¬ 100000 < n := by omega
            replace E := Lib.hid (E.out.trans (if_pos ⟨hr, wayV_t h1 h2, h3, h4⟩))
            have w1 : IntKind.i64.wrap (p + n) = p + n := by rw [IntKind.wrap_i64]; omega
            obtain ⟨kp, hkp⟩ : ∃ k, p + n = k := ⟨_, rfl⟩
            rw [hkp] at E RP
            replace w1 := w1.trans hkp
            have PE := PV hr
            clear PV
            by_cases h5 : s.size = 0
            · have i5 : (s.size : Int) = 0 := by omega
              have A : Hid (v = (.agg #[.bool b, .string s, .int .i64 x], 0)) := by unfold Hid; rw [E.out, RV.out, if_pos (Or.inr (List.eq_nil_of_length_eq_zero (by omega)))]
              rw [hr] at RA
              clear E CU RP SZ hr RV PE hkp
              obtain ⟨⟨z0, z1, z2, z3, z4, z5, z6, z7, z8⟩, zl, zB⟩ := ST.out
              clear zl zB
              go_enter Tryd.func21, Tryd.ntmps21
              go_wp2_with fail
              refine (RA.out _).mono ?_
              rintro e w1x ⟨rfl, hb⟩
              have ST1 := Lib.hid (KS.out _ _ ST.out hb)
              clear hb
              clear z0 z1 z2 z3 z4 z5 z6 z7 z8
              obtain ⟨⟨z0, z1, z2, z3, z4, z5, z6, z7, z8⟩, zl, zB⟩ := ST1.out
              clear zl zB
              go_wp2_with fail
              refine (PT.out _).mono ?_
              rintro e w2x ⟨rfl, hb⟩
              have ST2 := Lib.hid (KS.out _ _ ST1.out hb)
              clear hb
              clear z0 z1 z2 z3 z4 z5 z6 z7 z8
              obtain ⟨⟨z0, z1, z2, z3, z4, z5, z6, z7, z8⟩, zl, zB⟩ := ST2.out
              clear zl zB
              go_wp2
              refine bodyPost_ret (v := .tuple #[.agg #[.bool b, .string s, .int .i64 x], .int .i64 0]) (by simp [results, Tryd.results21, go_sem, *]) rfl ⟨by rw [A.out] <;> rfl, ?_⟩
              have hB := ST2.out.2.2
              (repeat' first | exact Below.refl _ _ | assumption | refine Below.drew ?_ | refine Below.alloc ?_ ?_ _ | refine Below.setCell ?_ ?_ _ | refine below_drewN ?_ _ | (simp; done) | omega | (simp; omega))
            · have i5 : ((s.size : Int) == 0) = false := by rw [beq_eq_false_iff_ne]; omega
              have lne : s.data.toList ≠ [] := fun e => h5 (by rw [SZ, e]; rfl)
              by_cases h6 : (s.size : Int) ≤ kp
              · clear lne
                have A : Hid (v = (.agg #[.bool b, .string s, .int .i64 x], 0)) := by unfold Hid; rw [E.out, RV.out, if_pos (Or.inl (by rw [← SZ]; exact h6))]
                rw [hr] at RA
                clear E CU RP SZ hr RV PE hkp
                obtain ⟨⟨z0, z1, z2, z3, z4, z5, z6, z7, z8⟩, zl, zB⟩ := ST.out
                clear zl zB
                go_enter Tryd.func21, Tryd.ntmps21
                go_wp2_with fail
                refine (RA.out _).mono ?_
                rintro e w1x ⟨rfl, hb⟩
                have ST1 := Lib.hid (KS.out _ _ ST.out hb)
                clear hb
                clear z0 z1 z2 z3 z4 z5 z6 z7 z8
                obtain ⟨⟨z0, z1, z2, z3, z4, z5, z6, z7, z8⟩, zl, zB⟩ := ST1.out
                clear zl zB
                go_wp2_with fail
                refine (PT.out _).mono ?_
                rintro e w2x ⟨rfl, hb⟩
                have ST2 := Lib.hid (KS.out _ _ ST1.out hb)
                clear hb
                clear z0 z1 z2 z3 z4 z5 z6 z7 z8
                obtain ⟨⟨z0, z1, z2, z3, z4, z5, z6, z7, z8⟩, zl, zB⟩ := ST2.out
                clear zl zB
                go_wp2
                refine bodyPost_ret (v := .tuple #[.agg #[.bool b, .string s, .int .i64 x], .int .i64 0]) (by simp [results, Tryd.results21, go_sem, *]) rfl ⟨by rw [A.out] <;> rfl, ?_⟩
                have hB := ST2.out.2.2
                (repeat' first | exact Below.refl _ _ | assumption | refine Below.drew ?_ | refine Below.alloc ?_ ?_ _ | refine Below.setCell ?_ ?_ _ | refine below_drewN ?_ _ | (simp; done) | omega | (simp; omega))
              · by_cases h7 : kp < 0
                · have LS := Lib.hid (fun W => less_any b s x n way W ⟨by omega, by omega⟩ (wayV_t h1 h2))
                  have RN := rnd_neg b s.data.toList x kp way h7 lne (wayV_t h1 h2)
                  rw [show x + (s.data.toList.length : Int) - kp = -n by rw [← SZ]; omega] at RN
                  rw [← RN] at LS
                  obtain ⟨c, q, y, er, hp⟩ := RP
                  rw [hp] at LS
                  have A : Hid (v = (.agg #[.bool c, .string q, .int .i64 y], er)) := E.out.trans hp
                  rw [hr] at RA
                  clear E CU SZ hr RV hp RN PE hkp lne
                  obtain ⟨⟨z0, z1, z2, z3, z4, z5, z6, z7, z8⟩, zl, zB⟩ := ST.out
                  clear zl zB
                  go_enter Tryd.func21, Tryd.ntmps21
                  go_wp2_with fail
                  refine (RA.out _).mono ?_
                  rintro e w1x ⟨rfl, hb⟩
                  have ST1 := Lib.hid (KS.out _ _ ST.out hb)
                  clear hb
                  clear z0 z1 z2 z3 z4 z5 z6 z7 z8
                  obtain ⟨⟨z0, z1, z2, z3, z4, z5, z6, z7, z8⟩, zl, zB⟩ := ST1.out
                  clear zl zB
                  go_wp2_with fail
                  refine (PT.out _).mono ?_
                  rintro e w2x ⟨rfl, hb⟩
                  have ST2 := Lib.hid (KS.out _ _ ST1.out hb)
                  clear hb
                  clear z0 z1 z2 z3 z4 z5 z6 z7 z8
                  obtain ⟨⟨z0, z1, z2, z3, z4, z5, z6, z7, z8⟩, zl, zB⟩ := ST2.out
                  clear zl zB
                  go_wp2_with fail
                  refine (LS.out _).mono ?_
                  rintro e w3x ⟨rfl, hb⟩
                  have ST3 := Lib.hid (KS.out _ _ ST2.out hb)
                  clear hb
                  clear z0 z1 z2 z3 z4 z5 z6 z7 z8
                  obtain ⟨⟨z0, z1, z2, z3, z4, z5, z6, z7, z8⟩, zl, zB⟩ := ST3.out
                  clear zl zB
                  go_wp2
                  refine bodyPost_ret (v := .tuple #[.agg #[.bool c, .string q, .int .i64 y], .int .i64 er]) (by simp [results, Tryd.results21, go_sem, *]) rfl ⟨by rw [A.out] <;> rfl, ?_⟩
                  have hB := ST3.out.2.2
                  (repeat' first | exact Below.refl _ _ | assumption | refine Below.drew ?_ | refine Below.alloc ?_ ?_ _ | refine Below.setCell ?_ ?_ _ | refine below_drewN ?_ _ | (simp; done) | omega | (simp; omega))
                · obtain ⟨m, rfl⟩ : ∃ m : Nat, kp = (m : Int) := ⟨kp.toNat, by omega⟩
                  obtain ⟨c, q, y, er, hp⟩ := RP
                  have CC := Lib.hid (fun W => CU.out m W hr (by omega) (wayV_t h1 h2))
                  rw [hp] at CC
                  have A : Hid (v = (.agg #[.bool c, .string q, .int .i64 y], er)) := E.out.trans hp
                  rw [hr] at RA
                  clear E CU SZ hr RV hp PE hkp lne
                  obtain ⟨⟨z0, z1, z2, z3, z4, z5, z6, z7, z8⟩, zl, zB⟩ := ST.out
                  clear zl zB
                  go_enter Tryd.func21, Tryd.ntmps21
                  go_wp2_with fail
                  refine (RA.out _).mono ?_
                  rintro e w1x ⟨rfl, hb⟩
                  have ST1 := Lib.hid (KS.out _ _ ST.out hb)
                  clear hb
                  clear z0 z1 z2 z3 z4 z5 z6 z7 z8
                  obtain ⟨⟨z0, z1, z2, z3, z4, z5, z6, z7, z8⟩, zl, zB⟩ := ST1.out
                  clear zl zB
                  go_wp2_with fail
                  refine (PT.out _).mono ?_
                  rintro e w2x ⟨rfl, hb⟩
                  have ST2 := Lib.hid (KS.out _ _ ST1.out hb)
                  clear hb
                  clear z0 z1 z2 z3 z4 z5 z6 z7 z8
                  obtain ⟨⟨z0, z1, z2, z3, z4, z5, z6, z7, z8⟩, zl, zB⟩ := ST2.out
                  clear zl zB
                  go_wp2_with fail
                  refine (CC.out _).mono ?_
                  rintro e w3x ⟨rfl, hb⟩
                  have ST3 := Lib.hid (KS.out _ _ ST2.out hb)
                  clear hb
                  clear z0 z1 z2 z3 z4 z5 z6 z7 z8
                  obtain ⟨⟨z0, z1, z2, z3, z4, z5, z6, z7, z8⟩, zl, zB⟩ := ST3.out
                  clear zl zB
                  go_wp2
                  refine bodyPost_ret (v := .tuple #[.agg #[.bool c, .string q, .int .i64 y], .int .i64 er]) (by simp [results, Tryd.results21, go_sem, *]) rfl ⟨by rw [A.out] <;> rfl, ?_⟩
                  have hB := ST3.out.2.2
                  (repeat' first | exact Below.refl _ _ | assumption | refine Below.drew ?_ | refine Below.alloc ?_ ?_ _ | refine Below.setCell ?_ ?_ _ | refine below_drewN ?_ _ | (simp; done) | omega | (simp; omega))
          · have h1q : ¬ way < 0 := by omega
            have h2q : ¬ 5 < way := by omega
            have h3q : ¬ n < -100000 := by omega
            have h4q : 100000 < n := by omega
            have A : Hid (v = (decV false [] 0, 1)) := by unfold Hid; rw [E.out, if_neg (fun e => h4 e.2.2.2)]
            rw [hr] at RA
            clear E CU RP SZ hr PV PT
            clear RV
            obtain ⟨⟨z0, z1, z2, z3, z4, z5, z6, z7, z8⟩, zl, zB⟩ := ST.out
            clear zl zB
            go_enter Tryd.func21, Tryd.ntmps21
            go_wp2_with fail
            refine (RA.out _).mono ?_
            rintro e w1x ⟨rfl, hb⟩
            have ST1 := Lib.hid (KS.out _ _ ST.out hb)
            clear hb
            clear z0 z1 z2 z3 z4 z5 z6 z7 z8
            obtain ⟨⟨z0, z1, z2, z3, z4, z5, z6, z7, z8⟩, zl, zB⟩ := ST1.out
            clear zl zB
            go_wp2
            refine bodyPost_ret (v := .tuple #[.agg #[.bool false, .string ⟨#[]⟩, .int .i64 0], .int .i64 1]) (by simp [results, Tryd.results21, go_sem, *]) rfl ⟨by rw [A.out] <;> rfl, ?_⟩
            have hB := ST1.out.2.2
            (repeat' first | exact Below.refl _ _ | assumption | refine Below.drew ?_ | refine Below.alloc ?_ ?_ _ | refine Below.setCell ?_ ?_ _ | refine below_drewN ?_ _ | (simp; done) | omega | (simp; omega))
        · have h1q : ¬ way < 0 := by omega
          have h2q : ¬ 5 < way := by omega
          have h3q : n < -100000 := by omega
          have A : Hid (v = (decV false [] 0, 1)) := by unfold Hid; rw [E.out, if_neg (fun e => h3 e.2.2.1)]
          rw [hr] at RA
          clear E CU RP SZ hr PV PT
          clear RV
          obtain ⟨⟨z0, z1, z2, z3, z4, z5, z6, z7, z8⟩, zl, zB⟩ := ST.out
          clear zl zB
          go_enter Tryd.func21, Tryd.ntmps21
          go_wp2_with fail
          refine (RA.out _).mono ?_
          rintro e w1x ⟨rfl, hb⟩
          have ST1 := Lib.hid (KS.out _ _ ST.out hb)
          clear hb
          clear z0 z1 z2 z3 z4 z5 z6 z7 z8
          obtain ⟨⟨z0, z1, z2, z3, z4, z5, z6, z7, z8⟩, zl, zB⟩ := ST1.out
          clear zl zB
          go_wp2
          refine bodyPost_ret (v := .tuple #[.agg #[.bool false, .string ⟨#[]⟩, .int .i64 0], .int .i64 1]) (by simp [results, Tryd.results21, go_sem, *]) rfl ⟨by rw [A.out] <;> rfl, ?_⟩
          have hB := ST1.out.2.2
          (repeat' first | exact Below.refl _ _ | assumption | refine Below.drew ?_ | refine Below.alloc ?_ ?_ _ | refine Below.setCell ?_ ?_ _ | refine below_drewN ?_ _ | (simp; done) | omega | (simp; omega))
      · have h1q : ¬ way < 0 := by omega
        have h2q : 5 < way := by omega
        have A : Hid (v = (decV false [] 0, 1)) := by unfold Hid; rw [E.out, if_neg (fun e => by have := of_decide_eq_true e.2.1; omega)]
        rw [hr] at RA
        clear E CU RP SZ hr PV PT
        clear RV
        obtain ⟨⟨z0, z1, z2, z3, z4, z5, z6, z7, z8⟩, zl, zB⟩ := ST.out
        clear zl zB
        go_enter Tryd.func21, Tryd.ntmps21
        go_wp2_with fail
        refine (RA.out _).mono ?_
        rintro e w1x ⟨rfl, hb⟩
        have ST1 := Lib.hid (KS.out _ _ ST.out hb)
        clear hb
        clear z0 z1 z2 z3 z4 z5 z6 z7 z8
        obtain ⟨⟨z0, z1, z2, z3, z4, z5, z6, z7, z8⟩, zl, zB⟩ := ST1.out
        clear zl zB
        go_wp2
        refine bodyPost_ret (v := .tuple #[.agg #[.bool false, .string ⟨#[]⟩, .int .i64 0], .int .i64 1]) (by simp [results, Tryd.results21, go_sem, *]) rfl ⟨by rw [A.out] <;> rfl, ?_⟩
        have hB := ST1.out.2.2
        (repeat' first | exact Below.refl _ _ | assumption | refine Below.drew ?_ | refine Below.alloc ?_ ?_ _ | refine Below.setCell ?_ ?_ _ | refine below_drewN ?_ _ | (simp; done) | omega | (simp; omega))
    · have h1q : way < 0 := by omega
      have A : Hid (v = (decV false [] 0, 1)) := by unfold Hid; rw [E.out, if_neg (fun e => by have := of_decide_eq_true e.2.1; omega)]
      rw [hr] at RA
      clear E CU RP SZ hr PV PT
      clear RV
      obtain ⟨⟨z0, z1, z2, z3, z4, z5, z6, z7, z8⟩, zl, zB⟩ := ST.out
      clear zl zB
      go_enter Tryd.func21, Tryd.ntmps21
      go_wp2_with fail
      refine (RA.out _).mono ?_
      rintro e w1x ⟨rfl, hb⟩
      have ST1 := Lib.hid (KS.out _ _ ST.out hb)
      clear hb
      clear z0 z1 z2 z3 z4 z5 z6 z7 z8
      obtain ⟨⟨z0, z1, z2, z3, z4, z5, z6, z7, z8⟩, zl, zB⟩ := ST1.out
      clear zl zB
      go_wp2
      refine bodyPost_ret (v := .tuple #[.agg #[.bool false, .string ⟨#[]⟩, .int .i64 0], .int .i64 1]) (by simp [results, Tryd.results21, go_sem, *]) rfl ⟨by rw [A.out] <;> rfl, ?_⟩
      have hB := ST1.out.2.2
      (repeat' first | exact Below.refl _ _ | assumption | refine Below.drew ?_ | refine Below.alloc ?_ ?_ _ | refine Below.setCell ?_ ?_ _ | refine below_drewN ?_ _ | (simp; done) | omega | (simp; omega))
end Go.Proofs.YtgjhpcmpgkfnkaaDoor
