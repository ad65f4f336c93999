/-
  Package decimal: rounded, Sig, Place: walked.
-/
import Derived.Test.YtgjhpcmpgkfnkaaDoorA14
namespace Go.Proofs.YtgjhpcmpgkfnkaaDoor
open Go.RowKit Go.Shelf

theorem heap_newB (w : World) (o : Obj) : (w.alloc o).heap[w.heap.size]? = some o := by unfold World.alloc; simp
theorem froz_newB (w : World) (cs : Array Value) (t : TypeId) (j : Nat) : (w.alloc (.cells cs t)).frozen? ⟨w.heap.size, j, none⟩ = false := by
  unfold World.frozen?
  rw [show (w.alloc (Obj.cells cs t)).heap[w.heap.size]? = some (Obj.cells cs t) from heap_newB w _]
  simp
theorem froz_onB {W W' : World} {n B : Nat} {j : Nat} (h : W.frozen? ⟨B, j, none⟩ = false) (hb : Below n W W') (hB : B < n) : W'.frozen? ⟨B, j, none⟩ = false := by
  unfold World.frozen? at *
  rw [hb.block B hB]; exact h
theorem boxDW (w : World) (b : Bool) (s : ByteArray) (x : Int) : ∃ W : World, (w.alloc (.cells #[.bool b, .string s, .int .i64 x] 23)).alloc (.cells #[.bool false, .string ⟨#[]⟩, .int .i64 0] 23) = W ∧ BoxD W w.heap.size b s x ∧ BoxD W (w.heap.size + 1) false ⟨#[]⟩ 0 ∧ (∀ j : Nat, W.frozen? ⟨w.heap.size + 1, j, none⟩ = false) ∧ Below w.heap.size w W ∧ w.heap.size + 1 < W.heap.size := by
  obtain ⟨W1, W, h1, h2, h3, h4, h5, h6, h7⟩ := boxD2 w b s x false ⟨#[]⟩ 0
  subst h1
  refine ⟨W, h3, h4, h5, fun j => ?_, h6, h7⟩
  rw [← h3, ← h2]
  exact froz_newB _ _ _ j
/-- A decimal, rounded to its first n digits. -/
def keptV (l : List UInt8) (n : Int) : List UInt8 := if 0 ≤ n then l.take n.toNat else []
def restV (l : List UInt8) (n : Int) : List UInt8 := if 0 ≤ n then l.drop n.toNat else 48 :: l
def newV (b : Bool) (l : List UInt8) (n way : Int) : List UInt8 := if upV b (keptV l n) (restV l n) way = true then oneMoreV (keptV l n) else keptV l n
def rndV (b : Bool) (l : List UInt8) (x n way : Int) : Value × Int :=
  if (l.length : Int) ≤ n ∨ l = [] then (decV b l x, 0) else makeV b (newV b l n way) (x + l.length - n)
def wayV (way : Int) : Bool := decide (0 ≤ way ∧ way ≤ 5)
def sigV (b : Bool) (l : List UInt8) (x n way : Int) : Value × Int := if rightV l x = true ∧ wayV way = true ∧ 1 ≤ n then rndV b l x n way else (decV false [] 0, 1)
def placeV (b : Bool) (l : List UInt8) (x n way : Int) : Value × Int := if rightV l x = true ∧ wayV way = true ∧ -100000 ≤ n ∧ n ≤ 100000 then rndV b l x (pointV l x + n) way else (decV false [] 0, 1)
theorem isWay_any (way : Int) (w : World) : Calls Tryd.prog 34 #[.int .i64 way] w fun e w' => e = .returned (.bool (wayV way)) ∧ w = w' := by
  unfold wayV
  by_cases h1 : 0 ≤ way
  · by_cases h2 : way ≤ 5
    · rw [decide_eq_true ⟨h1, h2⟩]
      go_enter Tryd.func34, Tryd.ntmps34
      go_wp2
      go_ret
      exact ⟨rfl, rfl⟩
    · rw [decide_eq_false (by omega)]
      go_enter Tryd.func34, Tryd.ntmps34
      go_wp2
      go_ret
      exact ⟨rfl, rfl⟩
  · rw [decide_eq_false (by omega)]
    go_enter Tryd.func34, Tryd.ntmps34
    go_wp2
    go_ret
    exact ⟨rfl, rfl⟩
theorem makeV_len (b : Bool) (l : List UInt8) (x : Int) : (makeV b l x).1 = decV false [] 0 ∨ ∃ c m y, (makeV b l x).1 = decV c m y := by
  unfold makeV; split
  · split
    · exact Or.inr ⟨_, _, _, rfl⟩
    · split
      · exact Or.inr ⟨_, _, _, rfl⟩
      · exact Or.inl rfl
  · exact Or.inl rfl
/-- What is made, as parts. -/
theorem makeV_parts (b : Bool) (l : List UInt8) (x : Int) : ∃ (c : Bool) (m : ByteArray) (y e : Int), makeV b l x = (.agg #[.bool c, .string m, .int .i64 y], e) := by
  unfold makeV decV; split
  · split
    · exact ⟨_, _, _, _, rfl⟩
    · split
      · exact ⟨_, _, _, _, rfl⟩
      · exact ⟨_, _, _, _, rfl⟩
  · exact ⟨_, _, _, _, rfl⟩
theorem oneMore_len (k : List UInt8) : (oneMoreV k).length ≤ k.length + 1 := by
  have := trimR_le k 57
  unfold oneMoreV; split
  · rw [List.length_cons, List.length_replicate]; omega
  · rename_i h
    have : (Lib.trimRightB k 57).length ≠ 0 := fun e => h (List.eq_nil_of_length_eq_zero e)
    rw [List.length_append, List.length_append, List.length_take, List.length_singleton, List.length_replicate]; omega
set_option maxRecDepth 100000 in
set_option maxHeartbeats 8000000 in
theorem rounded_any (b : Bool) (s : ByteArray) (x n way : Int) (w : World) (hs : s.size ≤ 1000000) (g : rightV s.data.toList x = true) (hn : -1000000 ≤ n) (hw : wayV way = true) :
    Calls Tryd.prog 35 #[.agg #[.bool b, .string s, .int .i64 x], .int .i64 n, .int .i64 way] w (MakePost (rndV b s.data.toList x n way) w) := by
  have hway := of_decide_eq_true hw
  have RL := rightV_len g
  have SZ := bytes_size s
  have EM : s.toList.isEmpty = s.data.toList.isEmpty := bytes_empty s
  have DG := rightV_digs g
  have E : Hid (rndV b s.data.toList x n way = if (s.data.toList.length : Int) ≤ n ∨ s.data.toList = [] then (.agg #[.bool b, .string s, .int .i64 x], 0) else makeV b (newV b s.data.toList n way) (x + s.data.toList.length - n)) := rfl
  obtain ⟨l, hl⟩ : ∃ l, s.data.toList = l := ⟨_, rfl⟩
  rw [hl] at RL SZ EM DG E ⊢
  rw [← SZ] at E
  obtain ⟨v, hv⟩ : ∃ v, rndV b l x n way = v := ⟨_, rfl⟩
  rw [hv] at E ⊢
  clear hv g hw
  have HL := Lib.hid hl
  clear hl
  have s1 : s.size ≤ 1100 := by omega
  obtain ⟨W, hW, ⟨e0, e1, e2⟩, ⟨f0, f1, f2⟩, ff, hbW, sz⟩ := boxDW w b s x
  have KS : Hid (∀ A Z : World, ((A.cell? ⟨w.heap.size, 0, none⟩ = some (.bool b) ∧ A.cell? ⟨w.heap.size, 1, none⟩ = some (.string s) ∧ A.cell? ⟨w.heap.size, 2, none⟩ = some (.int .i64 x) ∧ A.cell? ⟨w.heap.size + 1, 0, none⟩ = some (.bool false) ∧ A.cell? ⟨w.heap.size + 1, 1, none⟩ = some (.string ⟨#[]⟩) ∧ A.cell? ⟨w.heap.size + 1, 2, none⟩ = some (.int .i64 0) ∧ A.frozen? ⟨w.heap.size + 1, 0, none⟩ = false ∧ A.frozen? ⟨w.heap.size + 1, 1, none⟩ = false ∧ A.frozen? ⟨w.heap.size + 1, 2, none⟩ = false) ∧ ((w.heap.size < A.heap.size ∧ w.heap.size + 1 < A.heap.size) ∧ Below w.heap.size w A)) → Below A.heap.size A Z → ((Z.cell? ⟨w.heap.size, 0, none⟩ = some (.bool b) ∧ Z.cell? ⟨w.heap.size, 1, none⟩ = some (.string s) ∧ Z.cell? ⟨w.heap.size, 2, none⟩ = some (.int .i64 x) ∧ Z.cell? ⟨w.heap.size + 1, 0, none⟩ = some (.bool false) ∧ Z.cell? ⟨w.heap.size + 1, 1, none⟩ = some (.string ⟨#[]⟩) ∧ Z.cell? ⟨w.heap.size + 1, 2, none⟩ = some (.int .i64 0) ∧ Z.frozen? ⟨w.heap.size + 1, 0, none⟩ = false ∧ Z.frozen? ⟨w.heap.size + 1, 1, none⟩ = false ∧ Z.frozen? ⟨w.heap.size + 1, 2, none⟩ = false) ∧ ((w.heap.size < Z.heap.size ∧ w.heap.size + 1 < Z.heap.size) ∧ Below w.heap.size w Z))) := by
    rintro A Z ⟨⟨h0, h1, h2, h3, h4, h5, h6, h7, h8⟩, ⟨l0, l1⟩, hb⟩ hx
    have hz := hx.size
    refine ⟨⟨(hx.cell (p := ⟨w.heap.size, 0, none⟩) l0).trans h0, (hx.cell (p := ⟨w.heap.size, 1, none⟩) l0).trans h1, (hx.cell (p := ⟨w.heap.size, 2, none⟩) l0).trans h2, (hx.cell (p := ⟨w.heap.size + 1, 0, none⟩) l1).trans h3, (hx.cell (p := ⟨w.heap.size + 1, 1, none⟩) l1).trans h4, (hx.cell (p := ⟨w.heap.size + 1, 2, none⟩) l1).trans h5, froz_onB h6 hx l1, froz_onB h7 hx l1, froz_onB h8 hx l1⟩, ⟨by omega, by omega⟩, via hb hx⟩
  have ST : Hid ((W.cell? ⟨w.heap.size, 0, none⟩ = some (.bool b) ∧ W.cell? ⟨w.heap.size, 1, none⟩ = some (.string s) ∧ W.cell? ⟨w.heap.size, 2, none⟩ = some (.int .i64 x) ∧ W.cell? ⟨w.heap.size + 1, 0, none⟩ = some (.bool false) ∧ W.cell? ⟨w.heap.size + 1, 1, none⟩ = some (.string ⟨#[]⟩) ∧ W.cell? ⟨w.heap.size + 1, 2, none⟩ = some (.int .i64 0) ∧ W.frozen? ⟨w.heap.size + 1, 0, none⟩ = false ∧ W.frozen? ⟨w.heap.size + 1, 1, none⟩ = false ∧ W.frozen? ⟨w.heap.size + 1, 2, none⟩ = false) ∧ ((w.heap.size < W.heap.size ∧ w.heap.size + 1 < W.heap.size) ∧ Below w.heap.size w W)) := ⟨⟨e0, e1, e2, f0, f1, f2, ff 0, ff 1, ff 2⟩, ⟨by omega, by omega⟩, hbW⟩
  clear hbW sz e0 e1 e2 f0 f1 f2 ff
  by_cases h1 : (s.size : Int) ≤ n
  · have A : Hid (v = (.agg #[.bool b, .string s, .int .i64 x], 0)) := by unfold Hid; rw [E.out, if_pos (Or.inl h1)]
    clear E SZ EM DG RL hway
    obtain ⟨⟨z0, z1, z2, z3, z4, z5, z6, z7, z8⟩, zl, zB⟩ := ST.out
    clear zl zB
    go_enter Tryd.func35, Tryd.ntmps35
    go_wp2
    refine bodyPost_ret (v := .tuple #[.agg #[.bool b, .string s, .int .i64 x], .int .i64 0]) (by simp [results, Tryd.results35, go_sem, *]) rfl ⟨by rw [A.out] <;> rfl, ?_⟩
    have hB := ST.out.2.2
    (repeat' first | exact Below.refl _ _ | assumption | refine Below.drew ?_ | refine Below.alloc ?_ ?_ _ | refine Below.setCell ?_ ?_ _ | refine below_drewN ?_ _ | (simp; done) | omega | (simp; omega))
  · by_cases h2 : l = []
    · have e1 : s.toList.isEmpty = true := by rw [EM, h2]; rfl
      have E2 := Lib.hid (E.out.trans (if_pos (Or.inr h2)))
      clear h2
      have A : Hid (v = (.agg #[.bool b, .string s, .int .i64 x], 0)) := E2.out
      clear E SZ EM DG RL hway
      obtain ⟨⟨z0, z1, z2, z3, z4, z5, z6, z7, z8⟩, zl, zB⟩ := ST.out
      clear zl zB
      go_enter Tryd.func35, Tryd.ntmps35
      go_wp2
      refine bodyPost_ret (v := .tuple #[.agg #[.bool b, .string s, .int .i64 x], .int .i64 0]) (by simp [results, Tryd.results35, go_sem, *]) rfl ⟨by rw [A.out] <;> rfl, ?_⟩
      have hB := ST.out.2.2
      (repeat' first | exact Below.refl _ _ | assumption | refine Below.drew ?_ | refine Below.alloc ?_ ?_ _ | refine Below.setCell ?_ ?_ _ | refine below_drewN ?_ _ | (simp; done) | omega | (simp; omega))
    · have e1 : s.toList.isEmpty = false := by rw [EM]; exact List.isEmpty_eq_false_iff.2 h2
      replace E := Lib.hid (E.out.trans (if_neg (fun e => e.elim h1 h2)))
      clear h2 EM
      have a1 : IntKind.i64.wrap (x + (s.size : Int)) = x + (s.size : Int) := by rw [IntKind.wrap_i64]; omega
      have a2 : IntKind.i64.wrap (x + (s.size : Int) - n) = x + (s.size : Int) - n := by rw [IntKind.wrap_i64]; omega
      obtain ⟨X, hX⟩ : ∃ X, x + (s.size : Int) - n = X := ⟨_, rfl⟩
      replace a2 := a2.trans hX
      rw [hX] at E
      have X0 : -9223372036854775808 ≤ X ∧ X < 9223372036854775808 := by omega
      clear hX
      obtain ⟨S0, hS0, lS0⟩ := app_of ⟨#[48]⟩ s [48] _ rfl HL.out
      have zov : ¬ 9223372036854775807 < 1 + s.size := by omega
      by_cases h3 : 0 ≤ n
      · obtain ⟨m, rfl⟩ : ∃ m : Nat, n = (m : Int) := ⟨n.toNat, by omega⟩
        have mk : m < s.size := by omega
        have m1 : (m : Int) ≤ (s.size : Int) := by omega
        obtain ⟨K, hK⟩ : ∃ K : ByteArray, s.extract 0 m = K := ⟨_, rfl⟩
        obtain ⟨R, hR⟩ : ∃ K : ByteArray, s.extract m s.size = K := ⟨_, rfl⟩
        have kv : keptV l (m : Int) = K.data.toList := by unfold keptV; rw [if_pos h3, ← hK, Lib.extract_upto, HL.out]; rfl
        have rv : restV l (m : Int) = R.data.toList := by unfold restV; rw [if_pos h3, ← hR, Lib.extract_from, HL.out]; rfl
        have kz : K.size ≤ 900000 := by rw [bytes_size, ← kv]; unfold keptV; rw [if_pos h3, List.length_take]; omega
        have kd : K.data.toList.all dgB = true := by
          rw [← kv]; unfold keptV; rw [if_pos h3, List.all_eq_true]
          exact fun y hy => (List.all_eq_true.1 DG) y (List.mem_of_mem_take hy)
        have UW := Lib.hid (fun W => upward_any b K R way W (by omega) hway.1 hway.2)
        have OM := Lib.hid (fun W => oneMore_any K W (by omega) kd)
        have NV : newV b l (m : Int) way = if upV b K.data.toList R.data.toList way = true then oneMoreV K.data.toList else K.data.toList := by unfold newV; rw [kv, rv]
        rw [NV] at E
        have OL := Lib.hid (oneMore_len K.data.toList)
        have KZ := Lib.hid (bytes_size K)
        clear kv rv NV DG RL SZ lS0 hway kd hS0 zov
        obtain ⟨u, hu⟩ : ∃ u, upV b K.data.toList R.data.toList way = u := ⟨_, rfl⟩
        rw [hu] at UW E
        clear hu
        cases u with
        | true =>
          replace E := Lib.hid (E.out.trans (congrArg (fun z => makeV b z X) (if_pos rfl)))
          obtain ⟨⟨z0, z1, z2, z3, z4, z5, z6, z7, z8⟩, zl, zB⟩ := ST.out
          clear zl zB
          go_enter Tryd.func35, Tryd.ntmps35
          go_wp2
          go_quiet (fail)
          clear z0 z1 z2 z3 z4 z5 z6 z7 z8
          obtain ⟨wq1, hq⟩ : ∃ z, World.drewN W nq = z := ⟨_, rfl⟩
          rw [hq]
          have ST1 : Hid ((wq1.cell? ⟨w.heap.size, 0, none⟩ = some (.bool b) ∧ wq1.cell? ⟨w.heap.size, 1, none⟩ = some (.string s) ∧ wq1.cell? ⟨w.heap.size, 2, none⟩ = some (.int .i64 x) ∧ wq1.cell? ⟨w.heap.size + 1, 0, none⟩ = some (.bool false) ∧ wq1.cell? ⟨w.heap.size + 1, 1, none⟩ = some (.string ⟨#[]⟩) ∧ wq1.cell? ⟨w.heap.size + 1, 2, none⟩ = some (.int .i64 0) ∧ wq1.frozen? ⟨w.heap.size + 1, 0, none⟩ = false ∧ wq1.frozen? ⟨w.heap.size + 1, 1, none⟩ = false ∧ wq1.frozen? ⟨w.heap.size + 1, 2, none⟩ = false) ∧ ((w.heap.size < wq1.heap.size ∧ w.heap.size + 1 < wq1.heap.size) ∧ Below w.heap.size w wq1)) := by rw [← hq]; exact ⟨ST.out.1, ST.out.2.1, below_drewN ST.out.2.2 nq⟩
          clear hq
          obtain ⟨⟨z0, z1, z2, z3, z4, z5, z6, z7, z8⟩, zl, zB⟩ := ST1.out
          clear zl zB
          go_wp2
          go_quiet (fail)
          clear z0 z1 z2 z3 z4 z5 z6 z7 z8
          obtain ⟨wq2, hq⟩ : ∃ z, World.drewN wq1 nq = z := ⟨_, rfl⟩
          rw [hq]
          have ST2 : Hid ((wq2.cell? ⟨w.heap.size, 0, none⟩ = some (.bool b) ∧ wq2.cell? ⟨w.heap.size, 1, none⟩ = some (.string s) ∧ wq2.cell? ⟨w.heap.size, 2, none⟩ = some (.int .i64 x) ∧ wq2.cell? ⟨w.heap.size + 1, 0, none⟩ = some (.bool false) ∧ wq2.cell? ⟨w.heap.size + 1, 1, none⟩ = some (.string ⟨#[]⟩) ∧ wq2.cell? ⟨w.heap.size + 1, 2, none⟩ = some (.int .i64 0) ∧ wq2.frozen? ⟨w.heap.size + 1, 0, none⟩ = false ∧ wq2.frozen? ⟨w.heap.size + 1, 1, none⟩ = false ∧ wq2.frozen? ⟨w.heap.size + 1, 2, none⟩ = false) ∧ ((w.heap.size < wq2.heap.size ∧ w.heap.size + 1 < wq2.heap.size) ∧ Below w.heap.size w wq2)) := by rw [← hq]; exact ⟨ST1.out.1, ST1.out.2.1, below_drewN ST1.out.2.2 nq⟩
          clear hq
          obtain ⟨⟨z0, z1, z2, z3, z4, z5, z6, z7, z8⟩, zl, zB⟩ := ST2.out
          clear zl zB
          go_wp2_with fail
          refine (UW.out _).mono ?_
          rintro e w3x ⟨rfl, rfl⟩
          go_wp2_with fail
          refine (OM.out _).mono ?_
          rintro e w4x ⟨N, rfl, hN, hb⟩
          have ST4 := Lib.hid (KS.out _ _ ST2.out hb)
          clear hb
          clear z0 z1 z2 z3 z4 z5 z6 z7 z8
          obtain ⟨⟨z0, z1, z2, z3, z4, z5, z6, z7, z8⟩, zl, zB⟩ := ST4.out
          clear zl zB
          have nz : N.size ≤ 1000000 := by rw [bytes_size, hN]; have := OL.out; have := KZ.out; omega
          rw [← hN] at E
          have HN := Lib.hid hN
          clear hN
          have MK := Lib.hid (fun W => make_any b N X W (by omega) X0.1 X0.2)
          obtain ⟨c, q, y, er, hp⟩ := makeV_parts b (N).data.toList X
          rw [hp] at MK E
          clear hp
          have A : Hid (v = (.agg #[.bool c, .string q, .int .i64 y], er)) := E.out
          clear E
          go_wp2_with fail
          refine (MK.out _).mono ?_
          rintro e w5x ⟨rfl, hb⟩
          have ST5 := Lib.hid (KS.out _ _ ST4.out hb)
          clear hb
          clear z0 z1 z2 z3 z4 z5 z6 z7 z8
          obtain ⟨⟨z0, z1, z2, z3, z4, z5, z6, z7, z8⟩, zl, zB⟩ := ST5.out
          clear zl zB
          go_wp2
          refine bodyPost_ret (v := .tuple #[.agg #[.bool c, .string q, .int .i64 y], .int .i64 er]) (by simp [results, Tryd.results35, go_sem, *]) rfl ⟨by rw [A.out] <;> rfl, ?_⟩
          have hB := ST5.out.2.2
          (repeat' first | exact Below.refl _ _ | assumption | refine Below.drew ?_ | refine Below.alloc ?_ ?_ _ | refine Below.setCell ?_ ?_ _ | refine below_drewN ?_ _ | (simp; done) | omega | (simp; omega))
        | false =>
          replace E := Lib.hid (E.out.trans (congrArg (fun z => makeV b z X) (if_neg (by simp))))
          obtain ⟨⟨z0, z1, z2, z3, z4, z5, z6, z7, z8⟩, zl, zB⟩ := ST.out
          clear zl zB
          go_enter Tryd.func35, Tryd.ntmps35
          go_wp2
          go_quiet (fail)
          clear z0 z1 z2 z3 z4 z5 z6 z7 z8
          obtain ⟨wq1, hq⟩ : ∃ z, World.drewN W nq = z := ⟨_, rfl⟩
          rw [hq]
          have ST1 : Hid ((wq1.cell? ⟨w.heap.size, 0, none⟩ = some (.bool b) ∧ wq1.cell? ⟨w.heap.size, 1, none⟩ = some (.string s) ∧ wq1.cell? ⟨w.heap.size, 2, none⟩ = some (.int .i64 x) ∧ wq1.cell? ⟨w.heap.size + 1, 0, none⟩ = some (.bool false) ∧ wq1.cell? ⟨w.heap.size + 1, 1, none⟩ = some (.string ⟨#[]⟩) ∧ wq1.cell? ⟨w.heap.size + 1, 2, none⟩ = some (.int .i64 0) ∧ wq1.frozen? ⟨w.heap.size + 1, 0, none⟩ = false ∧ wq1.frozen? ⟨w.heap.size + 1, 1, none⟩ = false ∧ wq1.frozen? ⟨w.heap.size + 1, 2, none⟩ = false) ∧ ((w.heap.size < wq1.heap.size ∧ w.heap.size + 1 < wq1.heap.size) ∧ Below w.heap.size w wq1)) := by rw [← hq]; exact ⟨ST.out.1, ST.out.2.1, below_drewN ST.out.2.2 nq⟩
          clear hq
          obtain ⟨⟨z0, z1, z2, z3, z4, z5, z6, z7, z8⟩, zl, zB⟩ := ST1.out
          clear zl zB
          go_wp2
          go_quiet (fail)
          clear z0 z1 z2 z3 z4 z5 z6 z7 z8
          obtain ⟨wq2, hq⟩ : ∃ z, World.drewN wq1 nq = z := ⟨_, rfl⟩
          rw [hq]
          have ST2 : Hid ((wq2.cell? ⟨w.heap.size, 0, none⟩ = some (.bool b) ∧ wq2.cell? ⟨w.heap.size, 1, none⟩ = some (.string s) ∧ wq2.cell? ⟨w.heap.size, 2, none⟩ = some (.int .i64 x) ∧ wq2.cell? ⟨w.heap.size + 1, 0, none⟩ = some (.bool false) ∧ wq2.cell? ⟨w.heap.size + 1, 1, none⟩ = some (.string ⟨#[]⟩) ∧ wq2.cell? ⟨w.heap.size + 1, 2, none⟩ = some (.int .i64 0) ∧ wq2.frozen? ⟨w.heap.size + 1, 0, none⟩ = false ∧ wq2.frozen? ⟨w.heap.size + 1, 1, none⟩ = false ∧ wq2.frozen? ⟨w.heap.size + 1, 2, none⟩ = false) ∧ ((w.heap.size < wq2.heap.size ∧ w.heap.size + 1 < wq2.heap.size) ∧ Below w.heap.size w wq2)) := by rw [← hq]; exact ⟨ST1.out.1, ST1.out.2.1, below_drewN ST1.out.2.2 nq⟩
          clear hq
          obtain ⟨⟨z0, z1, z2, z3, z4, z5, z6, z7, z8⟩, zl, zB⟩ := ST2.out
          clear zl zB
          go_wp2_with fail
          refine (UW.out _).mono ?_
          rintro e w3x ⟨rfl, rfl⟩
          have MK := Lib.hid (fun W => make_any b K X W (by omega) X0.1 X0.2)
          obtain ⟨c, q, y, er, hp⟩ := makeV_parts b (K).data.toList X
          rw [hp] at MK E
          clear hp
          have A : Hid (v = (.agg #[.bool c, .string q, .int .i64 y], er)) := E.out
          clear E
          go_wp2_with fail
          refine (MK.out _).mono ?_
          rintro e w4x ⟨rfl, hb⟩
          have ST4 := Lib.hid (KS.out _ _ ST2.out hb)
          clear hb
          clear z0 z1 z2 z3 z4 z5 z6 z7 z8
          obtain ⟨⟨z0, z1, z2, z3, z4, z5, z6, z7, z8⟩, zl, zB⟩ := ST4.out
          clear zl zB
          go_wp2
          refine bodyPost_ret (v := .tuple #[.agg #[.bool c, .string q, .int .i64 y], .int .i64 er]) (by simp [results, Tryd.results35, go_sem, *]) rfl ⟨by rw [A.out] <;> rfl, ?_⟩
          have hB := ST4.out.2.2
          (repeat' first | exact Below.refl _ _ | assumption | refine Below.drew ?_ | refine Below.alloc ?_ ?_ _ | refine Below.setCell ?_ ?_ _ | refine below_drewN ?_ _ | (simp; done) | omega | (simp; omega))
      · obtain ⟨K, hK⟩ : ∃ K : ByteArray, K = ⟨#[]⟩ := ⟨_, rfl⟩
        obtain ⟨R, hR⟩ : ∃ K : ByteArray, S0 = K := ⟨_, rfl⟩
        have kv : keptV l n = K.data.toList := by unfold keptV; rw [if_neg h3, hK]
        have rv : restV l n = R.data.toList := by unfold restV; rw [if_neg h3, ← hR, lS0]; rfl
        have kz : K.size ≤ 900000 := by rw [hK]; show 0 ≤ 900000; omega
        have kd : K.data.toList.all dgB = true := by rw [hK]; rfl
        have UW := Lib.hid (fun W => upward_any b K R way W (by omega) hway.1 hway.2)
        have OM := Lib.hid (fun W => oneMore_any K W (by omega) kd)
        have NV : newV b l n way = if upV b K.data.toList R.data.toList way = true then oneMoreV K.data.toList else K.data.toList := by unfold newV; rw [kv, rv]
        rw [NV] at E
        have OL := Lib.hid (oneMore_len K.data.toList)
        have KZ := Lib.hid (bytes_size K)
        rw [hR] at hS0
        subst hK
        clear kv rv NV DG RL SZ lS0 hway kd hR
        obtain ⟨u, hu⟩ : ∃ u, upV b (⟨#[]⟩ : ByteArray).data.toList R.data.toList way = u := ⟨_, rfl⟩
        rw [hu] at UW E
        clear hu
        cases u with
        | true =>
          replace E := Lib.hid (E.out.trans (congrArg (fun z => makeV b z X) (if_pos rfl)))
          obtain ⟨⟨z0, z1, z2, z3, z4, z5, z6, z7, z8⟩, zl, zB⟩ := ST.out
          clear zl zB
          go_enter Tryd.func35, Tryd.ntmps35
          go_wp2
          go_quiet (fail)
          clear z0 z1 z2 z3 z4 z5 z6 z7 z8
          obtain ⟨wq1, hq⟩ : ∃ z, World.drewN W nq = z := ⟨_, rfl⟩
          rw [hq]
          have ST1 : Hid ((wq1.cell? ⟨w.heap.size, 0, none⟩ = some (.bool b) ∧ wq1.cell? ⟨w.heap.size, 1, none⟩ = some (.string s) ∧ wq1.cell? ⟨w.heap.size, 2, none⟩ = some (.int .i64 x) ∧ wq1.cell? ⟨w.heap.size + 1, 0, none⟩ = some (.bool false) ∧ wq1.cell? ⟨w.heap.size + 1, 1, none⟩ = some (.string ⟨#[]⟩) ∧ wq1.cell? ⟨w.heap.size + 1, 2, none⟩ = some (.int .i64 0) ∧ wq1.frozen? ⟨w.heap.size + 1, 0, none⟩ = false ∧ wq1.frozen? ⟨w.heap.size + 1, 1, none⟩ = false ∧ wq1.frozen? ⟨w.heap.size + 1, 2, none⟩ = false) ∧ ((w.heap.size < wq1.heap.size ∧ w.heap.size + 1 < wq1.heap.size) ∧ Below w.heap.size w wq1)) := by rw [← hq]; exact ⟨ST.out.1, ST.out.2.1, below_drewN ST.out.2.2 nq⟩
          clear hq
          obtain ⟨⟨z0, z1, z2, z3, z4, z5, z6, z7, z8⟩, zl, zB⟩ := ST1.out
          clear zl zB
          go_wp2_with fail
          refine (UW.out _).mono ?_
          rintro e w2x ⟨rfl, rfl⟩
          go_wp2_with fail
          refine (OM.out _).mono ?_
          rintro e w3x ⟨N, rfl, hN, hb⟩
          have ST3 := Lib.hid (KS.out _ _ ST1.out hb)
          clear hb
          clear z0 z1 z2 z3 z4 z5 z6 z7 z8
          obtain ⟨⟨z0, z1, z2, z3, z4, z5, z6, z7, z8⟩, zl, zB⟩ := ST3.out
          clear zl zB
          have nz : N.size ≤ 1000000 := by rw [bytes_size, hN]; have := OL.out; have := KZ.out; omega
          rw [← hN] at E
          have HN := Lib.hid hN
          clear hN
          have MK := Lib.hid (fun W => make_any b N X W (by omega) X0.1 X0.2)
          obtain ⟨c, q, y, er, hp⟩ := makeV_parts b (N).data.toList X
          rw [hp] at MK E
          clear hp
          have A : Hid (v = (.agg #[.bool c, .string q, .int .i64 y], er)) := E.out
          clear E
          go_wp2_with fail
          refine (MK.out _).mono ?_
          rintro e w4x ⟨rfl, hb⟩
          have ST4 := Lib.hid (KS.out _ _ ST3.out hb)
          clear hb
          clear z0 z1 z2 z3 z4 z5 z6 z7 z8
          obtain ⟨⟨z0, z1, z2, z3, z4, z5, z6, z7, z8⟩, zl, zB⟩ := ST4.out
          clear zl zB
          go_wp2
          refine bodyPost_ret (v := .tuple #[.agg #[.bool c, .string q, .int .i64 y], .int .i64 er]) (by simp [results, Tryd.results35, go_sem, *]) rfl ⟨by rw [A.out] <;> rfl, ?_⟩
          have hB := ST4.out.2.2
          (repeat' first | exact Below.refl _ _ | assumption | refine Below.drew ?_ | refine Below.alloc ?_ ?_ _ | refine Below.setCell ?_ ?_ _ | refine below_drewN ?_ _ | (simp; done) | omega | (simp; omega))
        | false =>
          replace E := Lib.hid (E.out.trans (congrArg (fun z => makeV b z X) (if_neg (by simp))))
          obtain ⟨⟨z0, z1, z2, z3, z4, z5, z6, z7, z8⟩, zl, zB⟩ := ST.out
          clear zl zB
          go_enter Tryd.func35, Tryd.ntmps35
          go_wp2
          go_quiet (fail)
          clear z0 z1 z2 z3 z4 z5 z6 z7 z8
          obtain ⟨wq1, hq⟩ : ∃ z, World.drewN W nq = z := ⟨_, rfl⟩
          rw [hq]
          have ST1 : Hid ((wq1.cell? ⟨w.heap.size, 0, none⟩ = some (.bool b) ∧ wq1.cell? ⟨w.heap.size, 1, none⟩ = some (.string s) ∧ wq1.cell? ⟨w.heap.size, 2, none⟩ = some (.int .i64 x) ∧ wq1.cell? ⟨w.heap.size + 1, 0, none⟩ = some (.bool false) ∧ wq1.cell? ⟨w.heap.size + 1, 1, none⟩ = some (.string ⟨#[]⟩) ∧ wq1.cell? ⟨w.heap.size + 1, 2, none⟩ = some (.int .i64 0) ∧ wq1.frozen? ⟨w.heap.size + 1, 0, none⟩ = false ∧ wq1.frozen? ⟨w.heap.size + 1, 1, none⟩ = false ∧ wq1.frozen? ⟨w.heap.size + 1, 2, none⟩ = false) ∧ ((w.heap.size < wq1.heap.size ∧ w.heap.size + 1 < wq1.heap.size) ∧ Below w.heap.size w wq1)) := by rw [← hq]; exact ⟨ST.out.1, ST.out.2.1, below_drewN ST.out.2.2 nq⟩
          clear hq
          obtain ⟨⟨z0, z1, z2, z3, z4, z5, z6, z7, z8⟩, zl, zB⟩ := ST1.out
          clear zl zB
          go_wp2_with fail
          refine (UW.out _).mono ?_
          rintro e w2x ⟨rfl, rfl⟩
          have MK := Lib.hid (fun W => make_any b ⟨#[]⟩ X W (by decide) X0.1 X0.2)
          obtain ⟨c, q, y, er, hp⟩ := makeV_parts b (⟨#[]⟩ : ByteArray).data.toList X
          rw [hp] at MK E
          clear hp
          have A : Hid (v = (.agg #[.bool c, .string q, .int .i64 y], er)) := E.out
          clear E
          go_wp2_with fail
          refine (MK.out _).mono ?_
          rintro e w3x ⟨rfl, hb⟩
          have ST3 := Lib.hid (KS.out _ _ ST1.out hb)
          clear hb
          clear z0 z1 z2 z3 z4 z5 z6 z7 z8
          obtain ⟨⟨z0, z1, z2, z3, z4, z5, z6, z7, z8⟩, zl, zB⟩ := ST3.out
          clear zl zB
          go_wp2
          refine bodyPost_ret (v := .tuple #[.agg #[.bool c, .string q, .int .i64 y], .int .i64 er]) (by simp [results, Tryd.results35, go_sem, *]) rfl ⟨by rw [A.out] <;> rfl, ?_⟩
          have hB := ST3.out.2.2
          (repeat' first | exact Below.refl _ _ | assumption | refine Below.drew ?_ | refine Below.alloc ?_ ?_ _ | refine Below.setCell ?_ ?_ _ | refine below_drewN ?_ _ | (simp; done) | omega | (simp; omega))
end Go.Proofs.YtgjhpcmpgkfnkaaDoor
