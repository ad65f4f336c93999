/-
  Package cell: Parse: walked.
-/
import Derived.Test.YtikcggbkkgipoaaDoorD2
import Derived.Deep.CutBlock
import Derived.Deep.DeepCutAuto
namespace Go.Proofs.YtikcggbkkgipoaaDoor
open Go.RowKit Go.Shelf

theorem ParsePost.of {l : List UInt8} {w w' : World} {v : Value} {e : Int} (h : parV l = (v, e)) (hb : Below w.heap.size w w') : ParsePost l w (.returned (.tuple #[v, .int .i64 e])) w' := by
  unfold ParsePost; rw [h]; exact ⟨rfl, hb⟩
set_option maxRecDepth 100000 in
set_option maxHeartbeats 8000000 in
theorem parse_any (s : ByteArray) (w : World) (hs : s.size ≤ 1000) : Calls Tryd.prog 10 #[.string s] w (ParsePost s.data.toList w) := by
  obtain ⟨Wz, W, hWz, hW, pz, p0, p1, hb, sz⟩ := boxes2z w
  have f1z := pz.f
  have fz0 := f1z 0; have fz1 := f1z 1; have fz2 := f1z 2; have fz3 := f1z 3
  obtain ⟨az0, az1, az2, az3⟩ := pz.b
  clear pz f1z
  have DS := Lib.hid (fun (S : ByteArray) hs W => dollar_any S W hs)
  have LT := Lib.hid (fun z z0 z1 W => letter_any z W z0 z1)
  have PM := Lib.hid (parV_min s.data.toList)
  have PL := Lib.hid (fun v e w' => @ParsePost.of s.data.toList w w' v e)
  have ls := bytes_size s
  obtain ⟨m1, hm1⟩ : ∃ m, dolL s.data.toList = m := ⟨_, rfl⟩
  obtain ⟨x, hx⟩ : ∃ x, dolB s.data.toList = x := ⟨_, rfl⟩
  have ml : m1.length ≤ 1000 := by
    rw [← hm1]; unfold dolL; split
    · rw [List.length_drop]; omega
    · omega
  have P0 := Lib.hid p0; have P1 := Lib.hid p1; have HB := Lib.hid hb; have SZ := Lib.hid sz
  clear p0 p1 hb sz ls
  obtain ⟨⟨a4, a5, a6, a7⟩, f1⟩ := P1.out
  have f12 := f1 2
  rw [hm1, hx] at PM
  have D1 := DS.out s (by omega) W
  rw [hm1, hx] at D1
  clear hm1 hx
  go_enter Tryd.func10, Tryd.ntmps10
  go_wp2_with fail
  refine D1.mono ?_
  rintro en w2 ⟨⟨S1, rfl, hS1⟩, rfl⟩
  clear D1 hW hWz az0 az1 az2 az3 fz0 fz1 fz2 fz3
  have q0 := P0.out.other (o := 2) (v := .bool x) (B' := w.heap.size + 1) (by omega)
  have q1 := P1.out.setx x
  have hb2 : Below w.heap.size w (W.setCell ⟨w.heap.size + 1, 2, none⟩ (.bool x)) := HB.out.setCell (by simp) _
  have sz2 : w.heap.size + 1 < (W.setCell ⟨w.heap.size + 1, 2, none⟩ (.bool x)).heap.size := by have := SZ.out; simp [World.setCell]; omega
  obtain ⟨W2, hW2⟩ : ∃ W2, W.setCell ⟨w.heap.size + 1, 2, none⟩ (.bool x) = W2 := ⟨_, rfl⟩
  rw [hW2] at q0 q1 hb2 sz2
  go_upto_block 0 with fail
  clear hW2 a4 a5 a6 a7 f1 f12 P0 P1 HB SZ
  have P0 := Lib.hid q0; have P1 := Lib.hid q1; have HB := Lib.hid hb2; have SZ := Lib.hid sz2
  clear q0 q1 hb2 sz2
  have sl := Lib.hid (show S1.size = m1.length by rw [bytes_size, hS1])
  have BG := Lib.hid (fun k hk => B_get (k := k) hS1 hk)
  have HS1 := Lib.hid hS1
  have sle : (S1.size : Int) ≤ 1000 := by rw [sl.out]; omega
  clear hS1
  go_cut [5, 6] (fun nv cv wx => ∃ n : Nat, nv = .int .i64 (n : Int) ∧ cv = .int .i64 (cvL m1 n) ∧ n ≤ 3 ∧ Hid (n = min 3 (run isLet m1)) ∧ W2 = wx)
  case first =>
    go_wp2_with fail
    go_loopw [5, 6] (fun nv cv wx => ∃ k : Nat, nv = .int .i64 (k : Int) ∧ cv = .int .i64 (cvL m1 k) ∧ k ≤ 3 ∧ Hid (k ≤ run isLet m1) ∧ W2 = wx) (fun nv _ _ => 4 - (intOf nv).toNat)
    case atStart => exact ⟨0, rfl, rfl, by omega, Nat.zero_le _, rfl⟩
    case round =>
      obtain ⟨k, rfl, rfl, hk3, hkr, rfl⟩ := hrel
      have k0 : (0 : Int) ≤ (k : Int) := by omega
      by_cases hlt : k < S1.size
      · have klt : (k : Int) < (S1.size : Int) := by omega
        have bs := BG.out k hlt
        obtain ⟨z, hz⟩ : ∃ z, B m1 k = z := ⟨_, rfl⟩
        obtain ⟨z0, z1⟩ := B_range m1 k
        rw [hz] at bs z0 z1
        have L1 := Lib.hid (fun W => LT.out z z0 z1 W)
        by_cases hl : isLet z = true
        · have hq := lv_let hl
          have nx : Hid (k + 1 ≤ run isLet m1) := run_more hkr.out (by rw [← sl.out]; exact hlt) (by rw [hz]; exact hl)
          have ec : Hid (cvL m1 (k + 1) = 26 * cvL m1 k + lv z + 1) := by unfold Hid; rw [← hz]; rfl
          have rg := cvL_range k hkr.out
          have rl := cvL_lt k hkr.out
          generalize lv z = q at *
          generalize hc : cvL m1 k = c at *
          have hq0 : 0 ≤ q := hq.1
          by_cases h3 : k < 3
          · have p26 : pow26 k ≤ 676 := by
              rcases k with _ | _ | _ | k
              · decide
              · decide
              · decide
              · omega
            have h3' : (k : Int) < 3 := by omega
            have w1 : IntKind.i64.wrap (c * 26) = 26 * c := by rw [IntKind.wrap_i64]; omega
            have w2 : IntKind.i64.wrap (26 * c + q) = 26 * c + q := by rw [IntKind.wrap_i64]; omega
            have w3 : IntKind.i64.wrap (26 * c + q + 1) = cvL m1 (k + 1) := by rw [IntKind.wrap_i64, ec.out]; omega
            clear ec hz z0 z1 rg rl p26 hc hq
            go_wp2_with fail
            refine (L1.out _).mono ?_
            rintro en w3 ⟨rfl, rfl⟩
            go_wp2_with fail
            refine (L1.out _).mono ?_
            rintro en w3 ⟨rfl, rfl⟩
            go_wp2
            go_roundw
            case rel => exact ⟨k + 1, by go_num, rfl, by omega, nx, by first | trivial | rfl⟩
            case measure => simp [intOf]; omega
          · have h3' : ¬ (k : Int) < 3 := by omega
            have ek : Hid (k = min 3 (run isLet m1)) := by unfold Hid; have := hkr.out; omega
            clear ec hz z0 z1 rg rl nx hq
            go_wp2_with fail
            refine (L1.out _).mono ?_
            rintro en w3 ⟨rfl, rfl⟩
            go_wp2
            go_meet
            exact ⟨k, rfl, by rw [hc], hk3, ek, by first | trivial | rfl⟩
        · rw [Bool.not_eq_true] at hl
          have hq := lv_not hl
          have ek : Hid (k = min 3 (run isLet m1)) := by
            unfold Hid
            have := run_ends hkr.out (by rw [hz]; exact hl)
            omega
          generalize lv z = q at *
          subst hq
          clear hz z0 z1
          go_wp2_with fail
          refine (L1.out _).mono ?_
          rintro en w3 ⟨rfl, rfl⟩
          go_wp2
          go_meet
          exact ⟨k, rfl, rfl, hk3, ek, by first | trivial | rfl⟩
      · have klt : ¬ (k : Int) < (S1.size : Int) := by omega
        have ek : Hid (k = min 3 (run isLet m1)) := by
          unfold Hid
          have := hkr.out
          have := run_le isLet m1
          have := sl.out
          omega
        go_wp2
        go_meet
        exact ⟨k, rfl, rfl, hk3, ek, by first | trivial | rfl⟩
  case rest =>
    obtain ⟨n, rfl, rfl, hn3, hn, rfl⟩ := hcut
    by_cases hn0 : n = 0
    · have fe : Hid (parV s.data.toList = ((Value.agg #[Value.int .i64 (0), Value.int .i64 (0), Value.bool false, Value.bool false]), 3)) := by
        unfold Hid; rw [PM.out, ← hn.out]; unfold parN; exact if_pos (.inl hn0)
      subst hn0
      obtain ⟨⟨a0, a1, a2, a3⟩, f0⟩ := P0.out
      have g0 := f0 0; have g1 := f0 1; have g2 := f0 2; have g3 := f0 3
      clear f0
      go_wp2
      refine bodyPost_ret (v := .tuple #[(Value.agg #[Value.int .i64 (0), Value.int .i64 (0), Value.bool false, Value.bool false]), .int .i64 3]) (by simp [results, Tryd.results10, go_sem, *]) rfl (PL.out _ _ _ fe.out ?_)
      exact (((HB.out.setCell (Nat.le_refl _) _).setCell (Nat.le_refl _) _).setCell (Nat.le_refl _) _).setCell (Nat.le_refl _) _
    · have hnz : ¬ (n : Int) = 0 := by omega
      have hnzb : ((n : Int) == 0) = false := by simpa using hnz
      have n0 : (0 : Int) ≤ (n : Int) := by omega
      have nle : Hid (n ≤ run isLet m1) := by unfold Hid; rw [hn.out]; exact Nat.min_le_right _ _
      have nls : (n : Int) ≤ (S1.size : Int) := by have := nle.out; have := run_le isLet m1; rw [sl.out]; omega
      have hex : (S1.extract n S1.size).data.toList = m1.drop n := by rw [extract_list, HS1.out]
      have D2 := DS.out (S1.extract n S1.size) (by rw [bytes_size, hex, List.length_drop]; omega) W2
      rw [hex] at D2
      obtain ⟨y, hy⟩ : ∃ y, dolB (m1.drop n) = y := ⟨_, rfl⟩
      obtain ⟨m3, hm3⟩ : ∃ m, behind m1 n = m := ⟨_, rfl⟩
      have hm3' : dolL (m1.drop n) = m3 := hm3
      rw [hy, hm3'] at D2
      have PN : Hid (parV s.data.toList = if okD m3 = false then ((Value.agg #[Value.int .i64 (0), Value.int .i64 (0), Value.bool false, Value.bool false]), 3) else if rgt (cvL m1 n - 1) (dvL m3 m3.length - 1) = true then ((Value.agg #[Value.int .i64 (cvL m1 n - 1), Value.int .i64 (dvL m3 m3.length - 1), Value.bool x, Value.bool y]), 0) else ((Value.agg #[Value.int .i64 (0), Value.int .i64 (0), Value.bool false, Value.bool false]), 14)) := by
        unfold Hid
        rw [PM.out, ← hn.out]
        unfold parN
        rw [hm3, hy]
        by_cases ho : okD m3 = false
        · rw [if_pos (.inr ho), if_pos ho]
        · rw [if_neg (fun h => h.elim hn0 ho), if_neg ho]
      have m3l : m3.length ≤ 1000 := by
        rw [← hm3']; unfold dolL; split
        · rw [List.length_drop, List.length_drop]; omega
        · rw [List.length_drop]; omega
      have cr := cvL_range n nle.out
      have cl := cvL_lt n nle.out
      have p26 : pow26 n ≤ 17576 := by
        rcases n with _ | _ | _ | _ | n
        · decide
        · decide
        · decide
        · decide
        · omega
      obtain ⟨c, hc⟩ : ∃ c, cvL m1 n = c := ⟨_, rfl⟩
      rw [hc] at cr cl PN
      have c1 : c ≤ 100000 := by omega
      have HC := Lib.hid hc
      rw [hc]
      have q0 := P0.out.other (o := 3) (v := .bool y) (B' := w.heap.size + 1) (by omega)
      have q1 := P1.out.sety y
      have hb3 : Below w.heap.size w (W2.setCell ⟨w.heap.size + 1, 3, none⟩ (.bool y)) := HB.out.setCell (by simp) _
      have sz3 : w.heap.size + 1 < (W2.setCell ⟨w.heap.size + 1, 3, none⟩ (.bool y)).heap.size := by have := SZ.out; simp [World.setCell]; omega
      obtain ⟨W3, hW3⟩ : ∃ W3, W2.setCell ⟨w.heap.size + 1, 3, none⟩ (.bool y) = W3 := ⟨_, rfl⟩
      rw [hW3] at q0 q1 hb3 sz3
      obtain ⟨⟨a4, a5, a6, a7⟩, f1⟩ := P1.out
      have f13 := f1 3
      clear hex hy hm3 hm3' hn PM cl p26 hc sl BG HS1 f1 P0 P1 HB SZ nle
      go_wp2_with fail
      refine D2.mono ?_
      rintro en w2 ⟨⟨S2, rfl, hS2⟩, rfl⟩
      have sl := Lib.hid (show S2.size = m3.length by rw [bytes_size, hS2])
      have BG := Lib.hid (fun k hk => B_get (k := k) hS2 hk)
      have HS2 := Lib.hid hS2
      have sle2 : (S2.size : Int) ≤ 1000 := by rw [sl.out]; omega
      clear hS2 D2
      go_wp2_with fail
      clear hW3 a4 a5 a6 a7 f13
      have P0 := Lib.hid q0; have P1 := Lib.hid q1; have HB := Lib.hid hb3; have SZ := Lib.hid sz3
      clear q0 q1 hb3 sz3
      go_loopw [7, 54] (fun rv iv wx => ∃ k : Nat, rv = .int .i64 (dvL m3 k) ∧ iv = .int .i64 (k : Int) ∧ Hid (k ≤ 7 ∧ k ≤ run isDig m3) ∧ W3 = wx) (fun _ iv _ => 1001 - (intOf iv).toNat)
      case atStart => exact ⟨0, rfl, rfl, ⟨by omega, Nat.zero_le _⟩, rfl⟩
      case round =>
        obtain ⟨k, rfl, rfl, hk, rfl⟩ := hrel
        have k0 : (0 : Int) ≤ (k : Int) := by omega
        by_cases hlt : k < S2.size
        · have klt : (k : Int) < (S2.size : Int) := by omega
          have bs := BG.out k hlt
          obtain ⟨z, hz⟩ : ∃ z, B m3 k = z := ⟨_, rfl⟩
          rw [hz] at bs
          have nodig : Hid ((z < 48 ∨ 57 < z ∨ 7 ≤ k) → parV s.data.toList = ((Value.agg #[Value.int .i64 (0), Value.int .i64 (0), Value.bool false, Value.bool false]), 3)) := by
            unfold Hid
            intro hh
            rw [PN.out]
            refine if_pos (decide_eq_false fun hd => ?_)
            obtain ⟨_, h2, h3, _⟩ := hd
            have hkl : k < run isDig m3 := by rw [h2, ← sl.out]; exact hlt
            have h4 := run_in isDig m3 k hkl
            rw [hz] at h4
            have h5 : 48 ≤ z ∧ z ≤ 57 := of_decide_eq_true h4
            have := sl.out
            omega
          by_cases y0 : z < 48
          · have fe := Lib.hid (nodig.out (.inl y0))
            clear nodig hz
            obtain ⟨⟨a0, a1, a2, a3⟩, f0⟩ := P0.out
            have g0 := f0 0; have g1 := f0 1; have g2 := f0 2; have g3 := f0 3
            clear f0
            go_wp2
            refine bodyPost_ret (v := .tuple #[(Value.agg #[Value.int .i64 (0), Value.int .i64 (0), Value.bool false, Value.bool false]), .int .i64 3]) (by simp [results, Tryd.results10, go_sem, *]) rfl (PL.out _ _ _ fe.out ?_)
            exact (((HB.out.setCell (Nat.le_refl _) _).setCell (Nat.le_refl _) _).setCell (Nat.le_refl _) _).setCell (Nat.le_refl _) _
          · by_cases y1 : 57 < z
            · have fe := Lib.hid (nodig.out (.inr (.inl y1)))
              clear nodig hz
              obtain ⟨⟨a0, a1, a2, a3⟩, f0⟩ := P0.out
              have g0 := f0 0; have g1 := f0 1; have g2 := f0 2; have g3 := f0 3
              clear f0
              go_wp2
              refine bodyPost_ret (v := .tuple #[(Value.agg #[Value.int .i64 (0), Value.int .i64 (0), Value.bool false, Value.bool false]), .int .i64 3]) (by simp [results, Tryd.results10, go_sem, *]) rfl (PL.out _ _ _ fe.out ?_)
              exact (((HB.out.setCell (Nat.le_refl _) _).setCell (Nat.le_refl _) _).setCell (Nat.le_refl _) _).setCell (Nat.le_refl _) _
            · by_cases k7 : 7 ≤ k
              · have k7' : (7 : Int) ≤ (k : Int) := by omega
                have fe := Lib.hid (nodig.out (.inr (.inr k7)))
                clear nodig hz
                obtain ⟨⟨a0, a1, a2, a3⟩, f0⟩ := P0.out
                have g0 := f0 0; have g1 := f0 1; have g2 := f0 2; have g3 := f0 3
                clear f0
                go_wp2
                refine bodyPost_ret (v := .tuple #[(Value.agg #[Value.int .i64 (0), Value.int .i64 (0), Value.bool false, Value.bool false]), .int .i64 3]) (by simp [results, Tryd.results10, go_sem, *]) rfl (PL.out _ _ _ fe.out ?_)
                exact (((HB.out.setCell (Nat.le_refl _) _).setCell (Nat.le_refl _) _).setCell (Nat.le_refl _) _).setCell (Nat.le_refl _) _
              · have k7' : ¬ (7 : Int) ≤ (k : Int) := by omega
                have nx : Hid (k + 1 ≤ 7 ∧ k + 1 ≤ run isDig m3) := ⟨by omega, run_more hk.out.2 (by rw [← sl.out]; exact hlt) (by rw [hz]; exact decide_eq_true (by omega))⟩
                have d0 := dvL_range k hk.out.2
                have d1 := dvL_lt k hk.out.2
                have p10 : pow10 k ≤ 1000000 := by
                  have := hk.out.1
                  rcases k with _ | _ | _ | _ | _ | _ | _ | k
                  · decide
                  · decide
                  · decide
                  · decide
                  · decide
                  · decide
                  · decide
                  · omega
                have ed : Hid (dvL m3 (k + 1) = 10 * dvL m3 k + (z - 48)) := by unfold Hid; rw [← hz]; rfl
                generalize dvL m3 k = dd at *
                have w1 : IntKind.i64.wrap (dd * 10) = 10 * dd := by rw [IntKind.wrap_i64]; omega
                have w2 : IntKind.u8.wrap (z - 48) = z - 48 := by rw [IntKind.wrap_u8]; omega
                have w3 : IntKind.i64.wrap (z - 48) = z - 48 := by rw [IntKind.wrap_i64]; omega
                have w4 : IntKind.i64.wrap (10 * dd + (z - 48)) = dvL m3 (k + 1) := by rw [IntKind.wrap_i64, ed.out]; omega
                clear nodig hz d0 d1 p10 ed
                go_wp2
                go_roundw
                case rel => exact ⟨k + 1, rfl, by go_num, nx, by first | trivial | rfl⟩
                case measure => simp [intOf]; omega
        · have klt : ¬ (k : Int) < (S2.size : Int) := by omega
          have ek : k = m3.length := by have := hk.out.2; have := run_le isDig m3; have := sl.out; omega
          subst ek
          have hrun : run isDig m3 = m3.length := by have := hk.out.2; have := run_le isDig m3; omega
          by_cases he : m3 = []
          · have e1 : S2.toList.isEmpty = true := by rw [bytes_empty, HS2.out, he]; rfl
            have fe : Hid (parV s.data.toList = ((Value.agg #[Value.int .i64 (0), Value.int .i64 (0), Value.bool false, Value.bool false]), 3)) := by unfold Hid; rw [PN.out]; exact if_pos (decide_eq_false fun h => h.1 he)
            clear he
            obtain ⟨⟨a0, a1, a2, a3⟩, f0⟩ := P0.out
            have g0 := f0 0; have g1 := f0 1; have g2 := f0 2; have g3 := f0 3
            clear f0
            go_wp2
            refine bodyPost_ret (v := .tuple #[(Value.agg #[Value.int .i64 (0), Value.int .i64 (0), Value.bool false, Value.bool false]), .int .i64 3]) (by simp [results, Tryd.results10, go_sem, *]) rfl (PL.out _ _ _ fe.out ?_)
            exact (((HB.out.setCell (Nat.le_refl _) _).setCell (Nat.le_refl _) _).setCell (Nat.le_refl _) _).setCell (Nat.le_refl _) _
          · have e1 : S2.toList.isEmpty = false := by rw [bytes_empty, HS2.out]; simpa using he
            have hz : 0 < S2.size := by rw [sl.out]; exact List.length_pos_iff.2 he
            have hz2 : (0 : Int) < (S2.size : Int) := by omega
            have bs := BG.out 0 hz
            obtain ⟨z, hzz⟩ : ∃ z, B m3 0 = z := ⟨_, rfl⟩
            rw [hzz] at bs
            by_cases h48 : z = 48
            · have fe : Hid (parV s.data.toList = ((Value.agg #[Value.int .i64 (0), Value.int .i64 (0), Value.bool false, Value.bool false]), 3)) := by unfold Hid; rw [PN.out]; exact if_pos (decide_eq_false fun h => h.2.2.2 (by rw [hzz]; exact h48))
              have h48b : (z == 48) = true := by simpa using h48
              clear he hrun hzz
              obtain ⟨⟨a0, a1, a2, a3⟩, f0⟩ := P0.out
              have g0 := f0 0; have g1 := f0 1; have g2 := f0 2; have g3 := f0 3
              clear f0
              go_wp2
              refine bodyPost_ret (v := .tuple #[(Value.agg #[Value.int .i64 (0), Value.int .i64 (0), Value.bool false, Value.bool false]), .int .i64 3]) (by simp [results, Tryd.results10, go_sem, *]) rfl (PL.out _ _ _ fe.out ?_)
              exact (((HB.out.setCell (Nat.le_refl _) _).setCell (Nat.le_refl _) _).setCell (Nat.le_refl _) _).setCell (Nat.le_refl _) _
            · have h48b : (z == 48) = false := by simpa using h48
              have hok : okD m3 = true := decide_eq_true ⟨he, hrun, hk.out.1, by rw [hzz]; exact h48⟩
              have d0 := dvL_range m3.length hk.out.2
              have d1 := dvL_lt m3.length hk.out.2
              have p10 : pow10 m3.length ≤ 10000000 := by
                have := hk.out.1
                generalize m3.length = k at *
                rcases k with _ | _ | _ | _ | _ | _ | _ | _ | k
                · decide
                · decide
                · decide
                · decide
                · decide
                · decide
                · decide
                · decide
                · omega
              have PO : Hid (parV s.data.toList = if rgt (c - 1) (dvL m3 m3.length - 1) = true then ((Value.agg #[Value.int .i64 (c - 1), Value.int .i64 (dvL m3 m3.length - 1), Value.bool x, Value.bool y]), 0) else ((Value.agg #[Value.int .i64 (0), Value.int .i64 (0), Value.bool false, Value.bool false]), 14)) := by
                unfold Hid; rw [PN.out]; exact if_neg (by rw [hok]; simp)
              generalize dvL m3 m3.length = d at *
              have w1 : IntKind.i64.wrap (c - 1) = c - 1 := by rw [IntKind.wrap_i64]; omega
              have w2 : IntKind.i64.wrap (d - 1) = d - 1 := by rw [IntKind.wrap_i64]; omega
              obtain ⟨ok, hk'⟩ : ∃ ok, rgt (c - 1) (d - 1) = ok := ⟨_, rfl⟩
              rw [hk'] at PO
              have RT := Lib.hid (fun W => right_any (c - 1) (d - 1) x y W)
              rw [hk'] at RT
              have q0 := (P0.out.other (o := 0) (v := .int .i64 (c - 1)) (B' := w.heap.size + 1) (by omega)).other (o := 1) (v := .int .i64 (d - 1)) (B' := w.heap.size + 1) (by omega)
              have q1 := (P1.out.setc (c - 1)).setr (d - 1)
              have hb4 : Below w.heap.size w ((W3.setCell ⟨w.heap.size + 1, 0, none⟩ (.int .i64 (c - 1))).setCell ⟨w.heap.size + 1, 1, none⟩ (.int .i64 (d - 1))) := (HB.out.setCell (Nat.le_succ _) _).setCell (Nat.le_succ _) _
              have sz4 : w.heap.size + 1 < ((W3.setCell ⟨w.heap.size + 1, 0, none⟩ (.int .i64 (c - 1))).setCell ⟨w.heap.size + 1, 1, none⟩ (.int .i64 (d - 1))).heap.size := by have := SZ.out; simp [World.setCell]; omega
              obtain ⟨W4, hW4⟩ : ∃ W4, (W3.setCell ⟨w.heap.size + 1, 0, none⟩ (.int .i64 (c - 1))).setCell ⟨w.heap.size + 1, 1, none⟩ (.int .i64 (d - 1)) = W4 := ⟨_, rfl⟩
              rw [hW4] at q0 q1 hb4 sz4
              obtain ⟨⟨a4, a5, a6, a7⟩, f1⟩ := P1.out
              have f10 := f1 0; have f11 := f1 1
              have ⟨⟨b4, b5, b6, b7⟩, _⟩ := q1
              clear he hrun hzz hok d0 d1 p10 hk' f1 P0 P1 HB SZ PN
              go_wp2_with fail
              refine (RT.out _).mono ?_
              rintro en w5 ⟨rfl, hb5⟩
              clear hW4 a4 a5 a6 a7 b4 b5 b6 b7 f10 f11
              have P0 := Lib.hid (q0.on hb5 (by omega))
              have P1 := Lib.hid (q1.on hb5 sz4)
              have HB := Lib.hid (via hb4 hb5)
              clear q0 q1 hb4 hb5 sz4
              cases ok
              · have fe : Hid (parV s.data.toList = ((Value.agg #[Value.int .i64 (0), Value.int .i64 (0), Value.bool false, Value.bool false]), 14)) := by unfold Hid; rw [PO.out]; rfl
                obtain ⟨⟨a0, a1, a2, a3⟩, f0⟩ := P0.out
                have g0 := f0 0; have g1 := f0 1; have g2 := f0 2; have g3 := f0 3
                clear f0
                go_wp2
                refine bodyPost_ret (v := .tuple #[(Value.agg #[Value.int .i64 (0), Value.int .i64 (0), Value.bool false, Value.bool false]), .int .i64 14]) (by simp [results, Tryd.results10, go_sem, *]) rfl (PL.out _ _ _ fe.out ?_)
                exact (((HB.out.setCell (Nat.le_refl _) _).setCell (Nat.le_refl _) _).setCell (Nat.le_refl _) _).setCell (Nat.le_refl _) _
              · have fe : Hid (parV s.data.toList = ((Value.agg #[Value.int .i64 (c - 1), Value.int .i64 (d - 1), Value.bool x, Value.bool y]), 0)) := by unfold Hid; rw [PO.out]; rfl
                obtain ⟨⟨b4, b5, b6, b7⟩, _⟩ := P1.out
                obtain ⟨⟨a0, a1, a2, a3⟩, f0⟩ := P0.out
                have g0 := f0 0; have g1 := f0 1; have g2 := f0 2; have g3 := f0 3
                clear f0
                go_wp2
                refine bodyPost_ret (v := .tuple #[(Value.agg #[Value.int .i64 (c - 1), Value.int .i64 (d - 1), Value.bool x, Value.bool y]), .int .i64 0]) (by simp [results, Tryd.results10, go_sem, *]) rfl (PL.out _ _ _ fe.out ?_)
                exact (((HB.out.setCell (Nat.le_refl _) _).setCell (Nat.le_refl _) _).setCell (Nat.le_refl _) _).setCell (Nat.le_refl _) _
end Go.Proofs.YtikcggbkkgipoaaDoor
