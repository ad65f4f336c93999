/-
  DecimalOrders: walked.
-/
import Derived.Test.YtgjhpcmpgkfnkaaDoorA43
import Derived.Test.YtgjhpcmpgkfnkaaDoorA23
namespace Go.Proofs.YtgjhpcmpgkfnkaaDoor
open Go.RowKit Go.Shelf

theorem boxD3 (w : World) (b : Bool) (s : ByteArray) (x : Int) (c : Bool) (t : ByteArray) (y : Int) (d : Bool) (u : ByteArray) (q : Int) : ∃ W1 W2 W : World, w.alloc (.cells #[.bool b, .string s, .int .i64 x] 23) = W1 ∧ W1.heap.size = w.heap.size + 1 ∧ W1.alloc (.cells #[.bool c, .string t, .int .i64 y] 23) = W2 ∧ W2.heap.size = w.heap.size + 2 ∧ W2.alloc (.cells #[.bool d, .string u, .int .i64 q] 23) = W ∧ BoxD W w.heap.size b s x ∧ BoxD W (w.heap.size + 1) c t y ∧ BoxD W (w.heap.size + 2) d u q ∧ Below w.heap.size w W ∧ w.heap.size + 2 < W.heap.size := by
  obtain ⟨W1, W2, h1, s1, h2, b1, b2, hb, sz⟩ := boxD2 w b s x c t y
  have s2 : W2.heap.size = w.heap.size + 2 := by rw [← h2]; simp [s1]
  have h := BoxD.new W2 d u q
  have hn : Below W2.heap.size W2 (W2.alloc (.cells #[.bool d, .string u, .int .i64 q] 23)) := al1 W2 _
  rw [s2] at h
  exact ⟨W1, W2, _, h1, s1, h2, s2, rfl, b1.on hn (by omega), b2.on hn (by omega), h, via hb hn, by simp [s2]⟩
theorem cmpV_bnd (b : Bool) (l : List UInt8) (x : Int) (c : Bool) (m : List UInt8) (y : Int) : -1 ≤ cmpV b l x c m y ∧ cmpV b l x c m y ≤ 1 := by
  by_cases h : rightV l x = true ∧ rightV m y = true
  · rw [cmp_val b l x c m y h.1 h.2]; unfold cmpI; split
    · omega
    · split <;> omega
  · rw [cmpV_not b l x c m y h]; omega
/-- What a rounding that is no error hands back. -/
theorem place_ok {b : Bool} {l : List UInt8} {x n way : Int} {c : Bool} {q : ByteArray} {y : Int} (h : placeV b l x n way = (.agg #[.bool c, .string q, .int .i64 y], 0)) : c = b ∧ rightV q.data.toList y = true ∧ vD q.data.toList y = rN (10 ^ (-n + 100000).toNat) b way (vD l x) := by
  by_cases hc : rightV l x = true ∧ wayV way = true ∧ -100000 ≤ n ∧ n ≤ 100000
  · rcases place_val b hc.1 hc.2.1 hc.2.2.1 hc.2.2.2 with ⟨m, z, e, r, v, _⟩ | ⟨e, _⟩
    · rw [e] at h
      unfold decV at h
      simp only [Prod.mk.injEq, Value.agg.injEq, and_true] at h
      injection h with h
      injection h with h1 h2
      injection h2 with h2 h3
      injection h3 with h3 h4
      injection h1 with h1
      injection h2 with h2
      injection h3 with _ h3
      subst h1; subst h2; subst h3
      exact ⟨rfl, r, v⟩
    · rw [e] at h; have := congrArg Prod.snd h; simp at this
  · have e : placeV b l x n way = (decV false [] 0, 1) := if_neg hc
    rw [e] at h; have := congrArg Prod.snd h; simp at this
theorem place_parts (b : Bool) (s : ByteArray) (x n way : Int) : ∃ (c : Bool) (q : ByteArray) (y e : Int), placeV b s.data.toList x n way = (.agg #[.bool c, .string q, .int .i64 y], e) := by
  unfold placeV; split
  · exact rndV_parts _ _ _ _ _
  · exact ⟨_, _, _, _, rfl⟩
theorem right_size {q : ByteArray} {y : Int} (h : rightV q.data.toList y = true) : q.size ≤ 1000000 := by
  rw [bytes_size]; have := (rightV_len h).1; omega
set_option maxRecDepth 100000 in
set_option maxHeartbeats 32000000 in
theorem decimalOrders_any (b : Bool) (s : ByteArray) (x : Int) (c : Bool) (t : ByteArray) (y : Int) (d : Bool) (u : ByteArray) (q : Int) (n way : Int) (w : World) (T : Tabs w) :
    Calls Tryd.prog 7 #[.agg #[.bool b, .string s, .int .i64 x], .agg #[.bool c, .string t, .int .i64 y], .agg #[.bool d, .string u, .int .i64 q], .int .i64 n, .int .i64 way] w fun e w' => e = .returned (.bool true) ∧ Below w.heap.size w w' := by
  have HT := Lib.hid T
  clear T
  obtain ⟨W1, W2, W, hW1, sW1, hW2, sW2, hW, ⟨e0, e1, e2⟩, ⟨f0, f1, f2⟩, ⟨g0, g1, g2⟩, hbW, sz⟩ := boxD3 w b s x c t y d u q
  have KS : Hid (∀ A Z : World, ((A.cell? ⟨w.heap.size, 0, none⟩ = some (.bool b) ∧ A.cell? ⟨w.heap.size, 1, none⟩ = some (.string s) ∧ A.cell? ⟨w.heap.size, 2, none⟩ = some (.int .i64 x) ∧ A.cell? ⟨w.heap.size + 1, 0, none⟩ = some (.bool c) ∧ A.cell? ⟨w.heap.size + 1, 1, none⟩ = some (.string t) ∧ A.cell? ⟨w.heap.size + 1, 2, none⟩ = some (.int .i64 y) ∧ A.cell? ⟨w.heap.size + 2, 0, none⟩ = some (.bool d) ∧ A.cell? ⟨w.heap.size + 2, 1, none⟩ = some (.string u) ∧ A.cell? ⟨w.heap.size + 2, 2, none⟩ = some (.int .i64 q)) ∧ ((w.heap.size < A.heap.size ∧ w.heap.size + 1 < A.heap.size ∧ w.heap.size + 2 < A.heap.size) ∧ Below w.heap.size w A)) → Below A.heap.size A Z → ((Z.cell? ⟨w.heap.size, 0, none⟩ = some (.bool b) ∧ Z.cell? ⟨w.heap.size, 1, none⟩ = some (.string s) ∧ Z.cell? ⟨w.heap.size, 2, none⟩ = some (.int .i64 x) ∧ Z.cell? ⟨w.heap.size + 1, 0, none⟩ = some (.bool c) ∧ Z.cell? ⟨w.heap.size + 1, 1, none⟩ = some (.string t) ∧ Z.cell? ⟨w.heap.size + 1, 2, none⟩ = some (.int .i64 y) ∧ Z.cell? ⟨w.heap.size + 2, 0, none⟩ = some (.bool d) ∧ Z.cell? ⟨w.heap.size + 2, 1, none⟩ = some (.string u) ∧ Z.cell? ⟨w.heap.size + 2, 2, none⟩ = some (.int .i64 q)) ∧ ((w.heap.size < Z.heap.size ∧ w.heap.size + 1 < Z.heap.size ∧ w.heap.size + 2 < Z.heap.size) ∧ Below w.heap.size w Z))) := by
    rintro A Z ⟨⟨h0, h1, h2, h3, h4, h5, h6, h7, h8⟩, ⟨l0, l1, l2⟩, hb⟩ hx
    have hz := hx.size
    refine ⟨⟨(hx.cell (p := ⟨w.heap.size, 0, none⟩) l0).trans h0, (hx.cell (p := ⟨w.heap.size, 1, none⟩) l0).trans h1, (hx.cell (p := ⟨w.heap.size, 2, none⟩) l0).trans h2, (hx.cell (p := ⟨w.heap.size + 1, 0, none⟩) l1).trans h3, (hx.cell (p := ⟨w.heap.size + 1, 1, none⟩) l1).trans h4, (hx.cell (p := ⟨w.heap.size + 1, 2, none⟩) l1).trans h5, (hx.cell (p := ⟨w.heap.size + 2, 0, none⟩) l2).trans h6, (hx.cell (p := ⟨w.heap.size + 2, 1, none⟩) l2).trans h7, (hx.cell (p := ⟨w.heap.size + 2, 2, none⟩) l2).trans h8⟩, ⟨by omega, by omega, by omega⟩, via hb hx⟩
  have ST : Hid ((W.cell? ⟨w.heap.size, 0, none⟩ = some (.bool b) ∧ W.cell? ⟨w.heap.size, 1, none⟩ = some (.string s) ∧ W.cell? ⟨w.heap.size, 2, none⟩ = some (.int .i64 x) ∧ W.cell? ⟨w.heap.size + 1, 0, none⟩ = some (.bool c) ∧ W.cell? ⟨w.heap.size + 1, 1, none⟩ = some (.string t) ∧ W.cell? ⟨w.heap.size + 1, 2, none⟩ = some (.int .i64 y) ∧ W.cell? ⟨w.heap.size + 2, 0, none⟩ = some (.bool d) ∧ W.cell? ⟨w.heap.size + 2, 1, none⟩ = some (.string u) ∧ W.cell? ⟨w.heap.size + 2, 2, none⟩ = some (.int .i64 q)) ∧ ((w.heap.size < W.heap.size ∧ w.heap.size + 1 < W.heap.size ∧ w.heap.size + 2 < W.heap.size) ∧ Below w.heap.size w W)) := ⟨⟨e0, e1, e2, f0, f1, f2, g0, g1, g2⟩, ⟨by omega, by omega, by omega⟩, hbW⟩
  clear hbW sz e0 e1 e2 f0 f1 f2 g0 g1 g2
  by_cases h1 : (s.size : Int) ≤ 1200
  · by_cases h2 : (t.size : Int) ≤ 1200
    · by_cases h3 : (u.size : Int) ≤ 1200
      · have h1q : ¬ 1200 < (s.size : Int) := by omega
        have h2q : ¬ 1200 < (t.size : Int) := by omega
        have h3q : ¬ 1200 < (u.size : Int) := by omega
        have RA := Lib.hid (fun W => right_any b s x W (by omega))
        have RB := Lib.hid (fun W => right_any c t y W (by omega))
        have RC := Lib.hid (fun W => right_any d u q W (by omega))
        have CAB := Lib.hid (fun W => cmp_any b s x c t y W (by omega) (by omega))
        have CBA := Lib.hid (fun W => cmp_any c t y b s x W (by omega) (by omega))
        have CAA := Lib.hid (fun W => cmp_any b s x b s x W (by omega) (by omega))
        have CBC := Lib.hid (fun W => cmp_any c t y d u q W (by omega) (by omega))
        have CAC := Lib.hid (fun W => cmp_any b s x d u q W (by omega) (by omega))
        rw [cmpV_self] at CAA
        have PA := Lib.hid (fun W => place_any b s x n way W (by omega))
        have PB := Lib.hid (fun W => place_any c t y n way W (by omega))
        obtain ⟨c1, q1, y1, er1, hp1⟩ := place_parts b s x n way
        obtain ⟨c2, q2, y2, er2, hp2⟩ := place_parts c t y n way
        rw [hp1] at PA; rw [hp2] at PB
        have bn := cmpV_bnd c t.data.toList y b s.data.toList x
        have tn := cmpV_turn b s.data.toList x c t.data.toList y
        have w1 : IntKind.i64.wrap (-cmpV c t.data.toList y b s.data.toList x) = cmpV b s.data.toList x c t.data.toList y := by rw [IntKind.wrap_i64]; omega
        clear bn tn
        have H2 : Hid (rightV s.data.toList x = true → rightV t.data.toList y = true → rightV u.data.toList q = true → cmpV b s.data.toList x c t.data.toList y ≤ 0 → cmpV c t.data.toList y d u.data.toList q ≤ 0 → cmpV b s.data.toList x d u.data.toList q ≤ 0) := fun r1 r2 r3 => cmpV_trans r1 r2 r3
        have H3 : Hid (rightV s.data.toList x = true → rightV t.data.toList y = true → cmpV b s.data.toList x c t.data.toList y = 0 → (s = ⟨#[]⟩ ∧ t = ⟨#[]⟩ ∧ x = 0 ∧ y = 0) ∨ (b = c ∧ s = t ∧ x = y)) := by
          intro r1 r2 e
          rcases cmpV_same r1 r2 e with ⟨e1, e2⟩ | ⟨e1, e2, e3⟩
          · rw [e1] at r1; rw [e2] at r2
            exact Or.inl ⟨bytes_eq e1, bytes_eq e2, of_decide_eq_true r1, of_decide_eq_true r2⟩
          · exact Or.inr ⟨e1, bytes_eq e2, e3⟩
        have H4 : Hid (rightV s.data.toList x = true → rightV t.data.toList y = true → cmpV b s.data.toList x c t.data.toList y ≤ 0 → er1 = 0 → er2 = 0 → ∃ m, m ≤ 0 ∧ ∀ W, Calls Tryd.prog 16 #[.agg #[.bool c1, .string q1, .int .i64 y1], .agg #[.bool c2, .string q2, .int .i64 y2]] W fun e w' => e = .returned (.int .i64 m) ∧ Below W.heap.size W w') := by
          intro r1 r2 hm e1 e2
          rw [e1] at hp1; rw [e2] at hp2
          obtain ⟨a1, a2, a3⟩ := place_ok hp1
          obtain ⟨b1, b2, b3⟩ := place_ok hp2
          refine ⟨cmpV c1 q1.data.toList y1 c2 q2.data.toList y2, ?_, fun W => cmp_any c1 q1 y1 c2 q2 y2 W (right_size a2) (right_size b2)⟩
          rw [a1, b1]
          exact place_mono r1 r2 hm a2 a3 b2 b3
        obtain ⟨r1, hr1⟩ : ∃ r, rightV s.data.toList x = r := ⟨_, rfl⟩
        obtain ⟨r2, hr2⟩ : ∃ r, rightV t.data.toList y = r := ⟨_, rfl⟩
        obtain ⟨r3, hr3⟩ : ∃ r, rightV u.data.toList q = r := ⟨_, rfl⟩
        obtain ⟨m1, hm1⟩ : ∃ r, cmpV b s.data.toList x c t.data.toList y = r := ⟨_, rfl⟩
        obtain ⟨m2, hm2⟩ : ∃ r, cmpV c t.data.toList y b s.data.toList x = r := ⟨_, rfl⟩
        obtain ⟨m3, hm3⟩ : ∃ r, cmpV c t.data.toList y d u.data.toList q = r := ⟨_, rfl⟩
        obtain ⟨m4, hm4⟩ : ∃ r, cmpV b s.data.toList x d u.data.toList q = r := ⟨_, rfl⟩
        rw [hr1] at RA H2 H3 H4; rw [hr2] at RB H2 H3 H4; rw [hr3] at RC H2
        rw [hm1] at CAB w1 H2 H3 H4; rw [hm2] at CBA w1; rw [hm3] at CBC H2; rw [hm4] at CAC H2
        clear hp1 hp2 hr1 hr2 hr3 hm1 hm2 hm3 hm4
        obtain ⟨⟨z0, z1, z2, z3, z4, z5, z6, z7, z8⟩, zl, zB⟩ := ST.out
        clear zl zB
        go_enter Tryd.func7, Tryd.ntmps7
        go_wp2_with fail
        refine (shown_any _ (HT.out.below ST.out.2.2)).mono ?_
        rintro e w1x ⟨rfl, hb⟩
        have ST1 := Lib.hid (KS.out _ _ ST.out hb)
        clear hb
        clear z0 z1 z2 z3 z4 z5 z6 z7 z8
        obtain ⟨⟨z0, z1, z2, z3, z4, z5, z6, z7, z8⟩, zl, zB⟩ := ST1.out
        clear zl zB
        go_wp2_with fail
        refine (RA.out _).mono ?_
        rintro e w2x ⟨rfl, hb⟩
        have ST2 := Lib.hid (KS.out _ _ ST1.out hb)
        clear hb
        clear z0 z1 z2 z3 z4 z5 z6 z7 z8
        obtain ⟨⟨z0, z1, z2, z3, z4, z5, z6, z7, z8⟩, zl, zB⟩ := ST2.out
        clear zl zB
        go_wp2_with fail
        refine (RB.out _).mono ?_
        rintro e w3x ⟨rfl, hb⟩
        have ST3 := Lib.hid (KS.out _ _ ST2.out hb)
        clear hb
        clear z0 z1 z2 z3 z4 z5 z6 z7 z8
        obtain ⟨⟨z0, z1, z2, z3, z4, z5, z6, z7, z8⟩, zl, zB⟩ := ST3.out
        clear zl zB
        go_wp2_with fail
        refine (RC.out _).mono ?_
        rintro e w4x ⟨rfl, hb⟩
        have ST4 := Lib.hid (KS.out _ _ ST3.out hb)
        clear hb
        clear z0 z1 z2 z3 z4 z5 z6 z7 z8
        obtain ⟨⟨z0, z1, z2, z3, z4, z5, z6, z7, z8⟩, zl, zB⟩ := ST4.out
        clear zl zB
        go_wp2_with fail
        refine (CAB.out _).mono ?_
        rintro e w5x ⟨rfl, hb⟩
        have ST5 := Lib.hid (KS.out _ _ ST4.out hb)
        clear hb
        clear z0 z1 z2 z3 z4 z5 z6 z7 z8
        obtain ⟨⟨z0, z1, z2, z3, z4, z5, z6, z7, z8⟩, zl, zB⟩ := ST5.out
        clear zl zB
        go_wp2_with fail
        refine (CBA.out _).mono ?_
        rintro e w6x ⟨rfl, hb⟩
        have ST6 := Lib.hid (KS.out _ _ ST5.out hb)
        clear hb
        clear z0 z1 z2 z3 z4 z5 z6 z7 z8
        obtain ⟨⟨z0, z1, z2, z3, z4, z5, z6, z7, z8⟩, zl, zB⟩ := ST6.out
        clear zl zB
        go_wp2_with fail
        refine (CAA.out _).mono ?_
        rintro e w7x ⟨rfl, hb⟩
        have ST7 := Lib.hid (KS.out _ _ ST6.out hb)
        clear hb
        clear z0 z1 z2 z3 z4 z5 z6 z7 z8
        obtain ⟨⟨z0, z1, z2, z3, z4, z5, z6, z7, z8⟩, zl, zB⟩ := ST7.out
        clear zl zB
        go_upto_region 10 with fail
        go_cut [72] (fun cv wx => cv = .bool (!(r1 && (r2 && r3))) ∧ w7x = wx)
        case first =>
          cases r1 <;> cases r2 <;> cases r3 <;> (go_wp2; go_meet; exact ⟨rfl, rfl⟩)
        case rest =>
        obtain ⟨rfl, rfl⟩ := hcut
        obtain ⟨rr, hrr⟩ : ∃ r, (r1 && (r2 && r3)) = r := ⟨_, rfl⟩
        rw [hrr]
        cases rr with
        | false =>
          clear H2 H3 H4 hrr
          go_wp2
          go_ret
          exact ⟨rfl, ST7.out.2.2⟩
        | true =>
          have hr : r1 = true ∧ r2 = true ∧ r3 = true := by cases r1 <;> cases r2 <;> cases r3 <;> simp at hrr ⊢
          replace H2 := Lib.hid (H2.out hr.1 hr.2.1 hr.2.2)
          replace H3 := Lib.hid (H3.out hr.1 hr.2.1)
          replace H4 := Lib.hid (H4.out hr.1 hr.2.1)
          clear hr hrr w1
          go_upto_region 12 with fail
          go_cut [105] (fun cv wx => cv = .bool false ∧ Hid ((wx.cell? ⟨w.heap.size, 0, none⟩ = some (.bool b) ∧ wx.cell? ⟨w.heap.size, 1, none⟩ = some (.string s) ∧ wx.cell? ⟨w.heap.size, 2, none⟩ = some (.int .i64 x) ∧ wx.cell? ⟨w.heap.size + 1, 0, none⟩ = some (.bool c) ∧ wx.cell? ⟨w.heap.size + 1, 1, none⟩ = some (.string t) ∧ wx.cell? ⟨w.heap.size + 1, 2, none⟩ = some (.int .i64 y) ∧ wx.cell? ⟨w.heap.size + 2, 0, none⟩ = some (.bool d) ∧ wx.cell? ⟨w.heap.size + 2, 1, none⟩ = some (.string u) ∧ wx.cell? ⟨w.heap.size + 2, 2, none⟩ = some (.int .i64 q)) ∧ ((w.heap.size < wx.heap.size ∧ w.heap.size + 1 < wx.heap.size ∧ w.heap.size + 2 < wx.heap.size) ∧ Below w.heap.size w wx)))
          case first =>
            by_cases h1m : m1 ≤ 0
            · by_cases h0m : m1 = 0
              · rcases H3.out h0m with ⟨rfl, rfl, rfl, rfl⟩ | ⟨rfl, rfl, rfl⟩
                · subst h0m
                  by_cases h3m : m3 ≤ 0
                  · cases b <;> cases c
                    · have zzz := h3m
                      have g1 : (0 : Int) ≤ 0 := h1m
                      have g3 : m3 ≤ 0 := h3m
                      have d3 : decide (m3 ≤ 0) = true := decide_eq_true g3
                      have g4 : ¬ 0 < m4 := by have := H2.out g1 g3; omega
                      have d4 : decide (0 < m4) = false := decide_eq_false g4
                      go_wp2_with fail
                      refine (CBC.out _).mono ?_
                      rintro e w8x ⟨rfl, hb⟩
                      have ST8 := Lib.hid (KS.out _ _ ST7.out hb)
                      clear hb
                      clear z0 z1 z2 z3 z4 z5 z6 z7 z8
                      obtain ⟨⟨z0, z1, z2, z3, z4, z5, z6, z7, z8⟩, zl, zB⟩ := ST8.out
                      clear zl zB
                      go_wp2_with fail
                      refine (CAC.out _).mono ?_
                      rintro e w9x ⟨rfl, hb⟩
                      have ST9 := Lib.hid (KS.out _ _ ST8.out hb)
                      clear hb
                      clear z0 z1 z2 z3 z4 z5 z6 z7 z8
                      obtain ⟨⟨z0, z1, z2, z3, z4, z5, z6, z7, z8⟩, zl, zB⟩ := ST9.out
                      clear zl zB
                      go_wp2
                      go_meet
                      exact ⟨rfl, ST9⟩
                    · have zzz := h3m
                      have g1 : (0 : Int) ≤ 0 := h1m
                      have g3 : m3 ≤ 0 := h3m
                      have d3 : decide (m3 ≤ 0) = true := decide_eq_true g3
                      have g4 : ¬ 0 < m4 := by have := H2.out g1 g3; omega
                      have d4 : decide (0 < m4) = false := decide_eq_false g4
                      go_wp2_with fail
                      refine (CBC.out _).mono ?_
                      rintro e w8x ⟨rfl, hb⟩
                      have ST8 := Lib.hid (KS.out _ _ ST7.out hb)
                      clear hb
                      clear z0 z1 z2 z3 z4 z5 z6 z7 z8
                      obtain ⟨⟨z0, z1, z2, z3, z4, z5, z6, z7, z8⟩, zl, zB⟩ := ST8.out
                      clear zl zB
                      go_wp2_with fail
                      refine (CAC.out _).mono ?_
                      rintro e w9x ⟨rfl, hb⟩
                      have ST9 := Lib.hid (KS.out _ _ ST8.out hb)
                      clear hb
                      clear z0 z1 z2 z3 z4 z5 z6 z7 z8
                      obtain ⟨⟨z0, z1, z2, z3, z4, z5, z6, z7, z8⟩, zl, zB⟩ := ST9.out
                      clear zl zB
                      go_wp2
                      go_meet
                      exact ⟨rfl, ST9⟩
                    · have zzz := h3m
                      have g1 : (0 : Int) ≤ 0 := h1m
                      have g3 : m3 ≤ 0 := h3m
                      have d3 : decide (m3 ≤ 0) = true := decide_eq_true g3
                      have g4 : ¬ 0 < m4 := by have := H2.out g1 g3; omega
                      have d4 : decide (0 < m4) = false := decide_eq_false g4
                      go_wp2_with fail
                      refine (CBC.out _).mono ?_
                      rintro e w8x ⟨rfl, hb⟩
                      have ST8 := Lib.hid (KS.out _ _ ST7.out hb)
                      clear hb
                      clear z0 z1 z2 z3 z4 z5 z6 z7 z8
                      obtain ⟨⟨z0, z1, z2, z3, z4, z5, z6, z7, z8⟩, zl, zB⟩ := ST8.out
                      clear zl zB
                      go_wp2_with fail
                      refine (CAC.out _).mono ?_
                      rintro e w9x ⟨rfl, hb⟩
                      have ST9 := Lib.hid (KS.out _ _ ST8.out hb)
                      clear hb
                      clear z0 z1 z2 z3 z4 z5 z6 z7 z8
                      obtain ⟨⟨z0, z1, z2, z3, z4, z5, z6, z7, z8⟩, zl, zB⟩ := ST9.out
                      clear zl zB
                      go_wp2
                      go_meet
                      exact ⟨rfl, ST9⟩
                    · have zzz := h3m
                      have g1 : (0 : Int) ≤ 0 := h1m
                      have g3 : m3 ≤ 0 := h3m
                      have d3 : decide (m3 ≤ 0) = true := decide_eq_true g3
                      have g4 : ¬ 0 < m4 := by have := H2.out g1 g3; omega
                      have d4 : decide (0 < m4) = false := decide_eq_false g4
                      go_wp2_with fail
                      refine (CBC.out _).mono ?_
                      rintro e w8x ⟨rfl, hb⟩
                      have ST8 := Lib.hid (KS.out _ _ ST7.out hb)
                      clear hb
                      clear z0 z1 z2 z3 z4 z5 z6 z7 z8
                      obtain ⟨⟨z0, z1, z2, z3, z4, z5, z6, z7, z8⟩, zl, zB⟩ := ST8.out
                      clear zl zB
                      go_wp2_with fail
                      refine (CAC.out _).mono ?_
                      rintro e w9x ⟨rfl, hb⟩
                      have ST9 := Lib.hid (KS.out _ _ ST8.out hb)
                      clear hb
                      clear z0 z1 z2 z3 z4 z5 z6 z7 z8
                      obtain ⟨⟨z0, z1, z2, z3, z4, z5, z6, z7, z8⟩, zl, zB⟩ := ST9.out
                      clear zl zB
                      go_wp2
                      go_meet
                      exact ⟨rfl, ST9⟩
                  · cases b <;> cases c
                    · have zzz := h3m
                      have g1 : (0 : Int) ≤ 0 := h1m
                      have g3 : ¬ m3 ≤ 0 := h3m
                      have d3 : decide (m3 ≤ 0) = false := decide_eq_false g3
                      go_wp2_with fail
                      refine (CBC.out _).mono ?_
                      rintro e w8x ⟨rfl, hb⟩
                      have ST8 := Lib.hid (KS.out _ _ ST7.out hb)
                      clear hb
                      clear z0 z1 z2 z3 z4 z5 z6 z7 z8
                      obtain ⟨⟨z0, z1, z2, z3, z4, z5, z6, z7, z8⟩, zl, zB⟩ := ST8.out
                      clear zl zB
                      go_wp2
                      go_meet
                      exact ⟨rfl, ST8⟩
                    · have zzz := h3m
                      have g1 : (0 : Int) ≤ 0 := h1m
                      have g3 : ¬ m3 ≤ 0 := h3m
                      have d3 : decide (m3 ≤ 0) = false := decide_eq_false g3
                      go_wp2_with fail
                      refine (CBC.out _).mono ?_
                      rintro e w8x ⟨rfl, hb⟩
                      have ST8 := Lib.hid (KS.out _ _ ST7.out hb)
                      clear hb
                      clear z0 z1 z2 z3 z4 z5 z6 z7 z8
                      obtain ⟨⟨z0, z1, z2, z3, z4, z5, z6, z7, z8⟩, zl, zB⟩ := ST8.out
                      clear zl zB
                      go_wp2
                      go_meet
                      exact ⟨rfl, ST8⟩
                    · have zzz := h3m
                      have g1 : (0 : Int) ≤ 0 := h1m
                      have g3 : ¬ m3 ≤ 0 := h3m
                      have d3 : decide (m3 ≤ 0) = false := decide_eq_false g3
                      go_wp2_with fail
                      refine (CBC.out _).mono ?_
                      rintro e w8x ⟨rfl, hb⟩
                      have ST8 := Lib.hid (KS.out _ _ ST7.out hb)
                      clear hb
                      clear z0 z1 z2 z3 z4 z5 z6 z7 z8
                      obtain ⟨⟨z0, z1, z2, z3, z4, z5, z6, z7, z8⟩, zl, zB⟩ := ST8.out
                      clear zl zB
                      go_wp2
                      go_meet
                      exact ⟨rfl, ST8⟩
                    · have zzz := h3m
                      have g1 : (0 : Int) ≤ 0 := h1m
                      have g3 : ¬ m3 ≤ 0 := h3m
                      have d3 : decide (m3 ≤ 0) = false := decide_eq_false g3
                      go_wp2_with fail
                      refine (CBC.out _).mono ?_
                      rintro e w8x ⟨rfl, hb⟩
                      have ST8 := Lib.hid (KS.out _ _ ST7.out hb)
                      clear hb
                      clear z0 z1 z2 z3 z4 z5 z6 z7 z8
                      obtain ⟨⟨z0, z1, z2, z3, z4, z5, z6, z7, z8⟩, zl, zB⟩ := ST8.out
                      clear zl zB
                      go_wp2
                      go_meet
                      exact ⟨rfl, ST8⟩
                · subst h0m
                  by_cases h3m : m3 ≤ 0
                  · have zz := h3m
                    have g1 : (0 : Int) ≤ 0 := h1m
                    have g3 : m3 ≤ 0 := h3m
                    have d3 : decide (m3 ≤ 0) = true := decide_eq_true g3
                    have g4 : ¬ 0 < m4 := by have := H2.out g1 g3; omega
                    have d4 : decide (0 < m4) = false := decide_eq_false g4
                    go_wp2_with fail
                    refine (CBC.out _).mono ?_
                    rintro e w8x ⟨rfl, hb⟩
                    have ST8 := Lib.hid (KS.out _ _ ST7.out hb)
                    clear hb
                    clear z0 z1 z2 z3 z4 z5 z6 z7 z8
                    obtain ⟨⟨z0, z1, z2, z3, z4, z5, z6, z7, z8⟩, zl, zB⟩ := ST8.out
                    clear zl zB
                    go_wp2_with fail
                    refine (CAC.out _).mono ?_
                    rintro e w9x ⟨rfl, hb⟩
                    have ST9 := Lib.hid (KS.out _ _ ST8.out hb)
                    clear hb
                    clear z0 z1 z2 z3 z4 z5 z6 z7 z8
                    obtain ⟨⟨z0, z1, z2, z3, z4, z5, z6, z7, z8⟩, zl, zB⟩ := ST9.out
                    clear zl zB
                    go_wp2
                    go_meet
                    exact ⟨rfl, ST9⟩
                  · have zz := h3m
                    have g1 : (0 : Int) ≤ 0 := h1m
                    have g3 : ¬ m3 ≤ 0 := h3m
                    have d3 : decide (m3 ≤ 0) = false := decide_eq_false g3
                    go_wp2_with fail
                    refine (CBC.out _).mono ?_
                    rintro e w8x ⟨rfl, hb⟩
                    have ST8 := Lib.hid (KS.out _ _ ST7.out hb)
                    clear hb
                    clear z0 z1 z2 z3 z4 z5 z6 z7 z8
                    obtain ⟨⟨z0, z1, z2, z3, z4, z5, z6, z7, z8⟩, zl, zB⟩ := ST8.out
                    clear zl zB
                    go_wp2
                    go_meet
                    exact ⟨rfl, ST8⟩
              · by_cases h3m : m3 ≤ 0
                · have zz := h0m
                  have g1 : m1 ≤ 0 := h1m
                  have d1 : decide (m1 ≤ 0) = true := decide_eq_true g1
                  have g3 : m3 ≤ 0 := h3m
                  have d3 : decide (m3 ≤ 0) = true := decide_eq_true g3
                  have g4 : ¬ 0 < m4 := by have := H2.out g1 g3; omega
                  have d4 : decide (0 < m4) = false := decide_eq_false g4
                  have z1 : (m1 == 0) = false := beq_eq_false_iff_ne.2 h0m
                  go_wp2_with fail
                  refine (CBC.out _).mono ?_
                  rintro e w8x ⟨rfl, hb⟩
                  have ST8 := Lib.hid (KS.out _ _ ST7.out hb)
                  clear hb
                  clear z0 z1 z2 z3 z4 z5 z6 z7 z8
                  obtain ⟨⟨z0, z1, z2, z3, z4, z5, z6, z7, z8⟩, zl, zB⟩ := ST8.out
                  clear zl zB
                  go_wp2_with fail
                  refine (CAC.out _).mono ?_
                  rintro e w9x ⟨rfl, hb⟩
                  have ST9 := Lib.hid (KS.out _ _ ST8.out hb)
                  clear hb
                  clear z0 z1 z2 z3 z4 z5 z6 z7 z8
                  obtain ⟨⟨z0, z1, z2, z3, z4, z5, z6, z7, z8⟩, zl, zB⟩ := ST9.out
                  clear zl zB
                  go_wp2
                  go_meet
                  exact ⟨rfl, ST9⟩
                · have zz := h0m
                  have g1 : m1 ≤ 0 := h1m
                  have d1 : decide (m1 ≤ 0) = true := decide_eq_true g1
                  have g3 : ¬ m3 ≤ 0 := h3m
                  have d3 : decide (m3 ≤ 0) = false := decide_eq_false g3
                  have z1 : (m1 == 0) = false := beq_eq_false_iff_ne.2 h0m
                  go_wp2_with fail
                  refine (CBC.out _).mono ?_
                  rintro e w8x ⟨rfl, hb⟩
                  have ST8 := Lib.hid (KS.out _ _ ST7.out hb)
                  clear hb
                  clear z0 z1 z2 z3 z4 z5 z6 z7 z8
                  obtain ⟨⟨z0, z1, z2, z3, z4, z5, z6, z7, z8⟩, zl, zB⟩ := ST8.out
                  clear zl zB
                  go_wp2
                  go_meet
                  exact ⟨rfl, ST8⟩
            · have zz := h1m
              have g1 : ¬ m1 ≤ 0 := h1m
              have d1 : decide (m1 ≤ 0) = false := decide_eq_false g1
              have z1 : (m1 == 0) = false := beq_eq_false_iff_ne.2 (by omega)
              go_wp2
              go_meet
              exact ⟨rfl, ST7⟩
          case rest =>
          obtain ⟨rfl, ST9⟩ := hcut
          clear z0 z1 z2 z3 z4 z5 z6 z7 z8
          obtain ⟨⟨z0, z1, z2, z3, z4, z5, z6, z7, z8⟩, zl, zB⟩ := ST9.out
          clear zl zB
          go_wp2_with fail
          refine (PA.out _).mono ?_
          rintro e w10x ⟨rfl, hb⟩
          have ST10 := Lib.hid (KS.out _ _ ST9.out hb)
          clear hb
          clear z0 z1 z2 z3 z4 z5 z6 z7 z8
          obtain ⟨⟨z0, z1, z2, z3, z4, z5, z6, z7, z8⟩, zl, zB⟩ := ST10.out
          clear zl zB
          obtain ⟨v11, hal⟩ : ∃ X, w10x.alloc (.cells #[.bool c1, .string q1, .int .i64 y1] 23) = X := ⟨_, rfl⟩
          have hbn := al1 w10x (.cells #[.bool c1, .string q1, .int .i64 y1] 23)
          rw [hal] at hbn
          have nbx := BoxD.new w10x c1 q1 y1
          rw [hal] at nbx
          have nbz : w10x.heap.size < v11.heap.size := by rw [← hal]; simp
          have STn := KS.out _ _ ST10.out hbn
          clear hbn
          clear z0 z1 z2 z3 z4 z5 z6 z7 z8
          obtain ⟨p11, hp⟩ : ∃ b, w10x.heap.size = b := ⟨_, rfl⟩
          rw [hp] at nbx nbz
          obtain ⟨⟨z0, z1, z2, z3, z4, z5, z6, z7, z8⟩, ⟨l0, l1, l2⟩, zB⟩ := STn
          have ST11 : Hid ((v11.cell? ⟨w.heap.size, 0, none⟩ = some (.bool b) ∧ v11.cell? ⟨w.heap.size, 1, none⟩ = some (.string s) ∧ v11.cell? ⟨w.heap.size, 2, none⟩ = some (.int .i64 x) ∧ v11.cell? ⟨w.heap.size + 1, 0, none⟩ = some (.bool c) ∧ v11.cell? ⟨w.heap.size + 1, 1, none⟩ = some (.string t) ∧ v11.cell? ⟨w.heap.size + 1, 2, none⟩ = some (.int .i64 y) ∧ v11.cell? ⟨w.heap.size + 2, 0, none⟩ = some (.bool d) ∧ v11.cell? ⟨w.heap.size + 2, 1, none⟩ = some (.string u) ∧ v11.cell? ⟨w.heap.size + 2, 2, none⟩ = some (.int .i64 q) ∧ v11.cell? ⟨p11, 0, none⟩ = some (.bool c1) ∧ v11.cell? ⟨p11, 1, none⟩ = some (.string q1) ∧ v11.cell? ⟨p11, 2, none⟩ = some (.int .i64 y1)) ∧ ((w.heap.size < v11.heap.size ∧ w.heap.size + 1 < v11.heap.size ∧ w.heap.size + 2 < v11.heap.size ∧ p11 < v11.heap.size) ∧ Below w.heap.size w v11)) := ⟨⟨z0, z1, z2, z3, z4, z5, z6, z7, z8, nbx.b, nbx.s, nbx.x⟩, ⟨l0, l1, l2, nbz⟩, zB⟩
          clear nbx nbz zB z0 z1 z2 z3 z4 z5 z6 z7 z8 l0 l1 l2
          have KS11 : Hid (∀ A Z : World, ((A.cell? ⟨w.heap.size, 0, none⟩ = some (.bool b) ∧ A.cell? ⟨w.heap.size, 1, none⟩ = some (.string s) ∧ A.cell? ⟨w.heap.size, 2, none⟩ = some (.int .i64 x) ∧ A.cell? ⟨w.heap.size + 1, 0, none⟩ = some (.bool c) ∧ A.cell? ⟨w.heap.size + 1, 1, none⟩ = some (.string t) ∧ A.cell? ⟨w.heap.size + 1, 2, none⟩ = some (.int .i64 y) ∧ A.cell? ⟨w.heap.size + 2, 0, none⟩ = some (.bool d) ∧ A.cell? ⟨w.heap.size + 2, 1, none⟩ = some (.string u) ∧ A.cell? ⟨w.heap.size + 2, 2, none⟩ = some (.int .i64 q) ∧ A.cell? ⟨p11, 0, none⟩ = some (.bool c1) ∧ A.cell? ⟨p11, 1, none⟩ = some (.string q1) ∧ A.cell? ⟨p11, 2, none⟩ = some (.int .i64 y1)) ∧ ((w.heap.size < A.heap.size ∧ w.heap.size + 1 < A.heap.size ∧ w.heap.size + 2 < A.heap.size ∧ p11 < A.heap.size) ∧ Below w.heap.size w A)) → Below A.heap.size A Z → ((Z.cell? ⟨w.heap.size, 0, none⟩ = some (.bool b) ∧ Z.cell? ⟨w.heap.size, 1, none⟩ = some (.string s) ∧ Z.cell? ⟨w.heap.size, 2, none⟩ = some (.int .i64 x) ∧ Z.cell? ⟨w.heap.size + 1, 0, none⟩ = some (.bool c) ∧ Z.cell? ⟨w.heap.size + 1, 1, none⟩ = some (.string t) ∧ Z.cell? ⟨w.heap.size + 1, 2, none⟩ = some (.int .i64 y) ∧ Z.cell? ⟨w.heap.size + 2, 0, none⟩ = some (.bool d) ∧ Z.cell? ⟨w.heap.size + 2, 1, none⟩ = some (.string u) ∧ Z.cell? ⟨w.heap.size + 2, 2, none⟩ = some (.int .i64 q) ∧ Z.cell? ⟨p11, 0, none⟩ = some (.bool c1) ∧ Z.cell? ⟨p11, 1, none⟩ = some (.string q1) ∧ Z.cell? ⟨p11, 2, none⟩ = some (.int .i64 y1)) ∧ ((w.heap.size < Z.heap.size ∧ w.heap.size + 1 < Z.heap.size ∧ w.heap.size + 2 < Z.heap.size ∧ p11 < Z.heap.size) ∧ Below w.heap.size w Z))) := by
            rintro A Z ⟨⟨h0, h1, h2, h3, h4, h5, h6, h7, h8, h9, h10, h11⟩, ⟨l0, l1, l2, l3⟩, hb⟩ hx
            have hz := hx.size
            refine ⟨⟨(hx.cell (p := ⟨w.heap.size, 0, none⟩) l0).trans h0, (hx.cell (p := ⟨w.heap.size, 1, none⟩) l0).trans h1, (hx.cell (p := ⟨w.heap.size, 2, none⟩) l0).trans h2, (hx.cell (p := ⟨w.heap.size + 1, 0, none⟩) l1).trans h3, (hx.cell (p := ⟨w.heap.size + 1, 1, none⟩) l1).trans h4, (hx.cell (p := ⟨w.heap.size + 1, 2, none⟩) l1).trans h5, (hx.cell (p := ⟨w.heap.size + 2, 0, none⟩) l2).trans h6, (hx.cell (p := ⟨w.heap.size + 2, 1, none⟩) l2).trans h7, (hx.cell (p := ⟨w.heap.size + 2, 2, none⟩) l2).trans h8, (hx.cell (p := ⟨p11, 0, none⟩) l3).trans h9, (hx.cell (p := ⟨p11, 1, none⟩) l3).trans h10, (hx.cell (p := ⟨p11, 2, none⟩) l3).trans h11⟩, ⟨by omega, by omega, by omega, by omega⟩, via hb hx⟩
          obtain ⟨⟨z0, z1, z2, z3, z4, z5, z6, z7, z8, z9, z10, z11⟩, zl, zB⟩ := ST11.out
          clear zl zB
          go_wp2_with fail
          refine (PB.out _).mono ?_
          rintro e w12x ⟨rfl, hb⟩
          have ST12 := Lib.hid (KS11.out _ _ ST11.out hb)
          clear hb
          clear z0 z1 z2 z3 z4 z5 z6 z7 z8 z9 z10 z11
          obtain ⟨⟨z0, z1, z2, z3, z4, z5, z6, z7, z8, z9, z10, z11⟩, zl, zB⟩ := ST12.out
          clear zl zB
          clear hal hp
          obtain ⟨v13, hal⟩ : ∃ X, w12x.alloc (.cells #[.bool c2, .string q2, .int .i64 y2] 23) = X := ⟨_, rfl⟩
          have hbn := al1 w12x (.cells #[.bool c2, .string q2, .int .i64 y2] 23)
          rw [hal] at hbn
          have nbx := BoxD.new w12x c2 q2 y2
          rw [hal] at nbx
          have nbz : w12x.heap.size < v13.heap.size := by rw [← hal]; simp
          have STn := KS11.out _ _ ST12.out hbn
          clear hbn
          clear z0 z1 z2 z3 z4 z5 z6 z7 z8 z9 z10 z11
          obtain ⟨p13, hp⟩ : ∃ b, w12x.heap.size = b := ⟨_, rfl⟩
          rw [hp] at nbx nbz
          obtain ⟨⟨z0, z1, z2, z3, z4, z5, z6, z7, z8, z9, z10, z11⟩, ⟨l0, l1, l2, l3⟩, zB⟩ := STn
          have ST13 : Hid ((v13.cell? ⟨w.heap.size, 0, none⟩ = some (.bool b) ∧ v13.cell? ⟨w.heap.size, 1, none⟩ = some (.string s) ∧ v13.cell? ⟨w.heap.size, 2, none⟩ = some (.int .i64 x) ∧ v13.cell? ⟨w.heap.size + 1, 0, none⟩ = some (.bool c) ∧ v13.cell? ⟨w.heap.size + 1, 1, none⟩ = some (.string t) ∧ v13.cell? ⟨w.heap.size + 1, 2, none⟩ = some (.int .i64 y) ∧ v13.cell? ⟨w.heap.size + 2, 0, none⟩ = some (.bool d) ∧ v13.cell? ⟨w.heap.size + 2, 1, none⟩ = some (.string u) ∧ v13.cell? ⟨w.heap.size + 2, 2, none⟩ = some (.int .i64 q) ∧ v13.cell? ⟨p11, 0, none⟩ = some (.bool c1) ∧ v13.cell? ⟨p11, 1, none⟩ = some (.string q1) ∧ v13.cell? ⟨p11, 2, none⟩ = some (.int .i64 y1) ∧ v13.cell? ⟨p13, 0, none⟩ = some (.bool c2) ∧ v13.cell? ⟨p13, 1, none⟩ = some (.string q2) ∧ v13.cell? ⟨p13, 2, none⟩ = some (.int .i64 y2)) ∧ ((w.heap.size < v13.heap.size ∧ w.heap.size + 1 < v13.heap.size ∧ w.heap.size + 2 < v13.heap.size ∧ p11 < v13.heap.size ∧ p13 < v13.heap.size) ∧ Below w.heap.size w v13)) := ⟨⟨z0, z1, z2, z3, z4, z5, z6, z7, z8, z9, z10, z11, nbx.b, nbx.s, nbx.x⟩, ⟨l0, l1, l2, l3, nbz⟩, zB⟩
          clear nbx nbz zB z0 z1 z2 z3 z4 z5 z6 z7 z8 z9 z10 z11 l0 l1 l2 l3
          have KS13 : Hid (∀ A Z : World, ((A.cell? ⟨w.heap.size, 0, none⟩ = some (.bool b) ∧ A.cell? ⟨w.heap.size, 1, none⟩ = some (.string s) ∧ A.cell? ⟨w.heap.size, 2, none⟩ = some (.int .i64 x) ∧ A.cell? ⟨w.heap.size + 1, 0, none⟩ = some (.bool c) ∧ A.cell? ⟨w.heap.size + 1, 1, none⟩ = some (.string t) ∧ A.cell? ⟨w.heap.size + 1, 2, none⟩ = some (.int .i64 y) ∧ A.cell? ⟨w.heap.size + 2, 0, none⟩ = some (.bool d) ∧ A.cell? ⟨w.heap.size + 2, 1, none⟩ = some (.string u) ∧ A.cell? ⟨w.heap.size + 2, 2, none⟩ = some (.int .i64 q) ∧ A.cell? ⟨p11, 0, none⟩ = some (.bool c1) ∧ A.cell? ⟨p11, 1, none⟩ = some (.string q1) ∧ A.cell? ⟨p11, 2, none⟩ = some (.int .i64 y1) ∧ A.cell? ⟨p13, 0, none⟩ = some (.bool c2) ∧ A.cell? ⟨p13, 1, none⟩ = some (.string q2) ∧ A.cell? ⟨p13, 2, none⟩ = some (.int .i64 y2)) ∧ ((w.heap.size < A.heap.size ∧ w.heap.size + 1 < A.heap.size ∧ w.heap.size + 2 < A.heap.size ∧ p11 < A.heap.size ∧ p13 < A.heap.size) ∧ Below w.heap.size w A)) → Below A.heap.size A Z → ((Z.cell? ⟨w.heap.size, 0, none⟩ = some (.bool b) ∧ Z.cell? ⟨w.heap.size, 1, none⟩ = some (.string s) ∧ Z.cell? ⟨w.heap.size, 2, none⟩ = some (.int .i64 x) ∧ Z.cell? ⟨w.heap.size + 1, 0, none⟩ = some (.bool c) ∧ Z.cell? ⟨w.heap.size + 1, 1, none⟩ = some (.string t) ∧ Z.cell? ⟨w.heap.size + 1, 2, none⟩ = some (.int .i64 y) ∧ Z.cell? ⟨w.heap.size + 2, 0, none⟩ = some (.bool d) ∧ Z.cell? ⟨w.heap.size + 2, 1, none⟩ = some (.string u) ∧ Z.cell? ⟨w.heap.size + 2, 2, none⟩ = some (.int .i64 q) ∧ Z.cell? ⟨p11, 0, none⟩ = some (.bool c1) ∧ Z.cell? ⟨p11, 1, none⟩ = some (.string q1) ∧ Z.cell? ⟨p11, 2, none⟩ = some (.int .i64 y1) ∧ Z.cell? ⟨p13, 0, none⟩ = some (.bool c2) ∧ Z.cell? ⟨p13, 1, none⟩ = some (.string q2) ∧ Z.cell? ⟨p13, 2, none⟩ = some (.int .i64 y2)) ∧ ((w.heap.size < Z.heap.size ∧ w.heap.size + 1 < Z.heap.size ∧ w.heap.size + 2 < Z.heap.size ∧ p11 < Z.heap.size ∧ p13 < Z.heap.size) ∧ Below w.heap.size w Z))) := by
            rintro A Z ⟨⟨h0, h1, h2, h3, h4, h5, h6, h7, h8, h9, h10, h11, h12, h13, h14⟩, ⟨l0, l1, l2, l3, l4⟩, hb⟩ hx
            have hz := hx.size
            refine ⟨⟨(hx.cell (p := ⟨w.heap.size, 0, none⟩) l0).trans h0, (hx.cell (p := ⟨w.heap.size, 1, none⟩) l0).trans h1, (hx.cell (p := ⟨w.heap.size, 2, none⟩) l0).trans h2, (hx.cell (p := ⟨w.heap.size + 1, 0, none⟩) l1).trans h3, (hx.cell (p := ⟨w.heap.size + 1, 1, none⟩) l1).trans h4, (hx.cell (p := ⟨w.heap.size + 1, 2, none⟩) l1).trans h5, (hx.cell (p := ⟨w.heap.size + 2, 0, none⟩) l2).trans h6, (hx.cell (p := ⟨w.heap.size + 2, 1, none⟩) l2).trans h7, (hx.cell (p := ⟨w.heap.size + 2, 2, none⟩) l2).trans h8, (hx.cell (p := ⟨p11, 0, none⟩) l3).trans h9, (hx.cell (p := ⟨p11, 1, none⟩) l3).trans h10, (hx.cell (p := ⟨p11, 2, none⟩) l3).trans h11, (hx.cell (p := ⟨p13, 0, none⟩) l4).trans h12, (hx.cell (p := ⟨p13, 1, none⟩) l4).trans h13, (hx.cell (p := ⟨p13, 2, none⟩) l4).trans h14⟩, ⟨by omega, by omega, by omega, by omega, by omega⟩, via hb hx⟩
          obtain ⟨⟨z0, z1, z2, z3, z4, z5, z6, z7, z8, z9, z10, z11, z12, z13, z14⟩, zl, zB⟩ := ST13.out
          clear zl zB
          go_upto_region 16 with fail
          clear hal hp
          go_cut [125] (fun cv wx => cv = .bool (!(decide (er1 = 0) && decide (er2 = 0))) ∧ v13 = wx)
          case first =>
            by_cases h1e : er1 = 0
            · subst h1e
              by_cases h2e : er2 = 0
              · subst h2e
                go_wp2
                go_meet
                exact ⟨rfl, rfl⟩
              · have z2 : (er2 == 0) = false := beq_eq_false_iff_ne.2 h2e
                have d2 : decide (er2 = 0) = false := decide_eq_false h2e
                go_wp2
                go_meet
                exact ⟨by simp [bne, z2, d2], rfl⟩
            · have z1 : (er1 == 0) = false := beq_eq_false_iff_ne.2 h1e
              have d1 : decide (er1 = 0) = false := decide_eq_false h1e
              go_wp2
              go_meet
              exact ⟨by rw [d1]; rfl, rfl⟩
          case rest =>
          obtain ⟨rfl, rfl⟩ := hcut
          obtain ⟨rr, hrr⟩ : ∃ r, (decide (er1 = 0) && decide (er2 = 0)) = r := ⟨_, rfl⟩
          rw [hrr]
          cases rr with
          | false =>
            clear H4 hrr
            go_wp2
            go_ret
            exact ⟨rfl, ST13.out.2.2⟩
          | true =>
            have he : er1 = 0 ∧ er2 = 0 := by rw [Bool.and_eq_true] at hrr; exact ⟨of_decide_eq_true hrr.1, of_decide_eq_true hrr.2⟩
            by_cases h1m : m1 ≤ 0
            · have zz := h1m
              have g1 : ¬ 0 < m1 := by omega
              have d1 : decide (0 < m1) = false := decide_eq_false g1
              obtain ⟨m5, g5, C5⟩ := H4.out h1m he.1 he.2
              have HC5 := Lib.hid C5
              have d5 : decide (m5 ≤ 0) = true := decide_eq_true g5
              clear C5 hrr he H4
              go_wp2_with fail
              refine (HC5.out _).mono ?_
              rintro e w14x ⟨rfl, hb⟩
              have ST14 := Lib.hid (KS13.out _ _ ST13.out hb)
              clear hb
              clear z0 z1 z2 z3 z4 z5 z6 z7 z8 z9 z10 z11 z12 z13 z14
              obtain ⟨⟨z0, z1, z2, z3, z4, z5, z6, z7, z8, z9, z10, z11, z12, z13, z14⟩, zl, zB⟩ := ST14.out
              clear zl zB
              go_wp2
              go_ret
              exact ⟨rfl, ST14.out.2.2⟩
            · have zz := h1m
              have g1 : 0 < m1 := by omega
              have d1 : decide (0 < m1) = true := decide_eq_true g1
              clear hrr he H4
              go_wp2
              go_ret
              exact ⟨rfl, ST13.out.2.2⟩
      · have h1q : ¬ 1200 < (s.size : Int) := by omega
        have h2q : ¬ 1200 < (t.size : Int) := by omega
        have h3q : 1200 < (u.size : Int) := by omega
        obtain ⟨⟨z0, z1, z2, z3, z4, z5, z6, z7, z8⟩, zl, zB⟩ := ST.out
        clear zl zB
        go_enter Tryd.func7, Tryd.ntmps7
        go_wp2_with fail
        refine (shown_any _ (HT.out.below ST.out.2.2)).mono ?_
        rintro e w1x ⟨rfl, hb⟩
        have ST1 := Lib.hid (KS.out _ _ ST.out hb)
        clear hb
        clear z0 z1 z2 z3 z4 z5 z6 z7 z8
        obtain ⟨⟨z0, z1, z2, z3, z4, z5, z6, z7, z8⟩, zl, zB⟩ := ST1.out
        clear zl zB
        go_wp2
        go_ret
        exact ⟨rfl, ST1.out.2.2⟩
    · have h1q : ¬ 1200 < (s.size : Int) := by omega
      have h2q : 1200 < (t.size : Int) := by omega
      obtain ⟨⟨z0, z1, z2, z3, z4, z5, z6, z7, z8⟩, zl, zB⟩ := ST.out
      clear zl zB
      go_enter Tryd.func7, Tryd.ntmps7
      go_wp2_with fail
      refine (shown_any _ (HT.out.below ST.out.2.2)).mono ?_
      rintro e w1x ⟨rfl, hb⟩
      have ST1 := Lib.hid (KS.out _ _ ST.out hb)
      clear hb
      clear z0 z1 z2 z3 z4 z5 z6 z7 z8
      obtain ⟨⟨z0, z1, z2, z3, z4, z5, z6, z7, z8⟩, zl, zB⟩ := ST1.out
      clear zl zB
      go_wp2
      go_ret
      exact ⟨rfl, ST1.out.2.2⟩
  · have h1q : 1200 < (s.size : Int) := by omega
    obtain ⟨⟨z0, z1, z2, z3, z4, z5, z6, z7, z8⟩, zl, zB⟩ := ST.out
    clear zl zB
    go_enter Tryd.func7, Tryd.ntmps7
    go_wp2_with fail
    refine (shown_any _ (HT.out.below ST.out.2.2)).mono ?_
    rintro e w1x ⟨rfl, hb⟩
    have ST1 := Lib.hid (KS.out _ _ ST.out hb)
    clear hb
    clear z0 z1 z2 z3 z4 z5 z6 z7 z8
    obtain ⟨⟨z0, z1, z2, z3, z4, z5, z6, z7, z8⟩, zl, zB⟩ := ST1.out
    clear zl zB
    go_wp2
    go_ret
    exact ⟨rfl, ST1.out.2.2⟩
end Go.Proofs.YtgjhpcmpgkfnkaaDoor
