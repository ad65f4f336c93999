/-
  The document's cells: Parse: walked.
-/
import Derived.Test.YtikcggbkkgipoaaDoorD2
import Derived.Deep.CutBlock
import Derived.Deep.DeepCutAuto
namespace Go.Proofs.YtikcggbkkgipoaaDoor
open Go.RowKit Go.Shelf

theorem ParsePost.of_ {l : List UInt8} {w w' : World} {v : Value} {e : Int} (h : parV l = (v, e)) (hb : Below w.heap.size w w') : ParsePost l w (.returned (.tuple #[v, .int .i64 e])) w' := by
  unfold ParsePost; rw [h]; exact ⟨rfl, hb⟩
def b2n (x : Bool) : Nat := if x = true then 1 else 0
theorem dolL_drop (l : List UInt8) : dolL l = l.drop (b2n (dolB l)) := by
  unfold dolL b2n; split <;> simp
theorem dolB_at {l : List UInt8} {o : Nat} : dolB (l.drop o) = (decide (o < l.length) && decide (B l o = 36)) := by
  have e : B (l.drop o) 0 = B l o := B_drop l o 0
  unfold dolB
  rw [e]
  by_cases h : o < l.length
  · rw [decide_eq_true h, show (l.drop o).isEmpty = false by rw [List.isEmpty_eq_false_iff]; intro h2; have := congrArg List.length h2; rw [List.length_drop] at this; simp at this; omega]; rfl
  · rw [decide_eq_false h, show l.drop o = [] from List.drop_eq_nil_of_le (by omega)]; rfl
/-- The two boxes of a reading: what is handed back, and what is read. -/
structure Two (w : World) (x y : Bool) (W : World) : Prop where
  p0 : Bx W w.heap.size 0 0 false false
  p1 : Bx W (w.heap.size + 1) 0 0 x y
  hb : Below w.heap.size w W
  sz : w.heap.size + 1 < W.heap.size
theorem Two.x {w W : World} {y : Bool} (h : Two w false y W) : Two w true y (W.setCell ⟨w.heap.size + 1, 2, none⟩ (.bool true)) :=
  ⟨h.p0.other (by omega), h.p1.setx true, h.hb.setCell (Nat.le_succ _) _, by have := h.sz; simp [World.setCell]; omega⟩
theorem Two.y {w W : World} {x : Bool} (h : Two w x false W) : Two w x true (W.setCell ⟨w.heap.size + 1, 3, none⟩ (.bool true)) :=
  ⟨h.p0.other (by omega), h.p1.sety true, h.hb.setCell (Nat.le_succ _) _, by have := h.sz; simp [World.setCell]; omega⟩
set_option maxRecDepth 100000 in
set_option maxHeartbeats 8000000 in
theorem rparse_any (s : ByteArray) (w : World) (hs : s.size ≤ 1000) : Calls Tryd.prog 11 #[.string s] w (ParsePost s.data.toList w) := by
  obtain ⟨Wz, W, hWz, hW, pz, p0, p1, hb, sz⟩ := boxes2z w
  have f1z := pz.f
  have fz0 := f1z 0; have fz1 := f1z 1; have fz2 := f1z 2; have fz3 := f1z 3
  obtain ⟨az0, az1, az2, az3⟩ := pz.b
  clear pz f1z
  have TW := Lib.hid (Two.mk p0 p1 hb sz)
  have LT := Lib.hid (fun z z0 z1 W => rletter_any z W z0 z1)
  have PL := Lib.hid (fun v e w' => @ParsePost.of_ s.data.toList w w' v e)
  have sl := Lib.hid (bytes_size s)
  have BG := Lib.hid (fun k hk => B_get (k := k) (s := s) rfl hk)
  have sle : (s.size : Int) ≤ 1000 := by omega
  have hdl := dolL_drop s.data.toList
  have hdb := dolB_at (l := s.data.toList) (o := 0)
  rw [List.drop_zero] at hdb
  obtain ⟨l, hl⟩ : ∃ l, s.data.toList = l := ⟨_, rfl⟩
  obtain ⟨x, hx⟩ : ∃ x, dolB s.data.toList = x := ⟨_, rfl⟩
  obtain ⟨m1, hm1⟩ : ∃ m, dolL s.data.toList = m := ⟨_, rfl⟩
  rw [hm1, hx, hl] at hdl
  rw [hx, hl] at hdb
  rw [hl] at BG PL sl ⊢
  have PV' : Hid (parV l = if 3 < run isLet m1 then ((Value.agg #[Value.int .i64 (0), Value.int .i64 (0), Value.bool false, Value.bool false]), 3) else parN x m1 (run isLet m1)) := by
    unfold Hid; unfold parV; rw [← hl, hm1, hx]
  clear hl hx hm1 p0 p1 hb sz
  have p1 := TW.out.p1
  obtain ⟨⟨a4, a5, a6, a7⟩, f1⟩ := p1
  have f12 := f1 2
  clear f1
  go_enter Tryd.func11, Tryd.ntmps11
  go_upto_region 3 with fail
  have HDB := Lib.hid hdb; have HDL := Lib.hid hdl
  clear hdb hdl
  go_cut [20] (fun cv wx => cv = .bool x ∧ W = wx)
  case first =>
    by_cases h0 : 0 < s.size
    · have h0' : (0 : Int) < (s.size : Int) := by omega
      have bs := BG.out 0 h0
      obtain ⟨z, hz⟩ : ∃ z, B l 0 = z := ⟨_, rfl⟩
      rw [hz] at bs
      have hx : x = decide (z = 36) := by
        have h := HDB.out
        rw [hz, decide_eq_true (by rw [← sl.out]; exact h0), Bool.true_and] at h; exact h
      by_cases h36 : z = 36
      · have h36b : (z == 36) = true := by simpa using h36
        have ex : Hid (x = true) := by unfold Hid; rw [hx, decide_eq_true h36]
        clear hz hx h36
        go_wp2
        go_meet
        exact ⟨by rw [ex.out], by first | trivial | rfl⟩
      · have h36b : (z == 36) = false := by simpa using h36
        have ex : Hid (x = false) := by unfold Hid; rw [hx, decide_eq_false h36]
        clear hz hx h36
        go_wp2
        go_meet
        exact ⟨by rw [ex.out], by first | trivial | rfl⟩
    · have h0' : ¬ (0 : Int) < (s.size : Int) := by omega
      have ex : Hid (x = false) := by
        unfold Hid
        have h := HDB.out
        rw [decide_eq_false (by rw [← sl.out]; exact h0), Bool.false_and] at h; exact h
      go_wp2
      go_meet
      exact ⟨by rw [ex.out], by first | trivial | rfl⟩
  case rest =>
  obtain ⟨rfl, rfl⟩ := hcut
  go_upto_if 20 with fail
  go_cut [5] (fun iv wx => iv = .int .i64 (b2n x : Int) ∧ Hid (Two w x false wx))
  case first =>
    cases x
    · go_wp2
      go_meet
      exact ⟨rfl, TW.out⟩
    · go_wp2
      go_meet
      exact ⟨rfl, TW.out.x⟩
  case rest =>
    obtain ⟨rfl, tw⟩ := hcut
    obtain ⟨W2, hW2⟩ : ∃ W2, wc = W2 := ⟨_, rfl⟩
    rw [hW2] at tw ⊢
    clear hW2
    clear hWz hW az0 az1 az2 az3 fz0 fz1 fz2 fz3 a4 a5 a6 a7 f12 TW
    obtain ⟨o1, ho1⟩ : ∃ o, b2n x = o := ⟨_, rfl⟩
    rw [ho1] at HDL ⊢
    have o1b : o1 ≤ 1 := by rw [← ho1]; unfold b2n; split <;> omega
    have Bm : Hid (∀ k, B m1 k = B l (o1 + k)) := fun k => by rw [HDL.out, B_drop]
    have ml : Hid (m1.length = l.length - o1) := by unfold Hid; rw [HDL.out, List.length_drop]
    have o1l : Hid (o1 ≤ l.length) := by
      unfold Hid; rw [← ho1]; unfold b2n
      by_cases hx : x = true
      · rw [if_pos hx]
        have h := HDB.out
        rw [hx] at h
        have h2 := h.symm
        rw [Bool.and_eq_true] at h2
        have := of_decide_eq_true h2.1
        omega
      · rw [if_neg hx]; omega
    clear ho1 HDB
    obtain ⟨p, hp⟩ : ∃ p, run isLet m1 = p := ⟨_, rfl⟩
    go_upto_block 0 with fail
    go_cut [5, 6] (fun iv cv wx => iv = .int .i64 ((o1 + p : Nat) : Int) ∧ ∃ q : Int, cv = .int .i64 q ∧ 0 ≤ q ∧ q ≤ 1000000 ∧ Hid (p ≤ 3 → q = cvL m1 p) ∧ W2 = wx)
    case first =>
      go_wp2_with fail
      go_loopw [5, 6] (fun iv cv wx => ∃ (k : Nat) (q : Int), iv = .int .i64 ((o1 + k : Nat) : Int) ∧ cv = .int .i64 q ∧ 0 ≤ q ∧ q ≤ 1000000 ∧ Hid (k ≤ p ∧ (k ≤ 3 → q = cvL m1 k)) ∧ W2 = wx) (fun iv _ _ => 1002 - (intOf iv).toNat)
      case atStart => exact ⟨0, 0, rfl, rfl, by omega, by omega, ⟨Nat.zero_le _, fun _ => rfl⟩, rfl⟩
      case round =>
        obtain ⟨k, q, rfl, rfl, q0, q1, hk, rfl⟩ := hrel
        have k0 : (0 : Int) ≤ ((o1 + k : Nat) : Int) := by omega
        by_cases hlt : o1 + k < s.size
        · have klt : ((o1 + k : Nat) : Int) < (s.size : Int) := by omega
          have bs := BG.out (o1 + k) hlt
          obtain ⟨z, hz⟩ : ∃ z, B l (o1 + k) = z := ⟨_, rfl⟩
          obtain ⟨z0, z1⟩ := B_range l (o1 + k)
          rw [hz] at bs z0 z1
          have hzm : B m1 k = z := by rw [Bm.out, hz]
          have L1 := Lib.hid (fun W => LT.out z z0 z1 W)
          have hkm : k < m1.length := by rw [ml.out, ← sl.out]; omega
          by_cases hlet : isLet z = true
          · have hv := lv_let hlet
            have nx : k + 1 ≤ p := by rw [← hp]; exact run_more (by rw [hp]; exact hk.out.1) hkm (by rw [hzm]; exact hlet)
            have ec : cvL m1 (k + 1) = 26 * cvL m1 k + lv z + 1 := by rw [← hzm]; rfl
            have q' : ∃ q', min (26 * q + (lv z + 1)) 1000000 = q' ∧ 0 ≤ q' ∧ q' ≤ 1000000 ∧ Hid (k + 1 ≤ p ∧ (k + 1 ≤ 3 → q' = cvL m1 (k + 1))) := by
              refine ⟨_, rfl, by omega, by omega, nx, fun h3 => ?_⟩
              have hq := hk.out.2 (by omega)
              have := cvL_lt (k + 1) (by rw [hp]; exact nx)
              have p26 : pow26 (k + 1) ≤ 17576 := by
                rcases k with _ | _ | _ | k
                · decide
                · decide
                · decide
                · omega
              rw [ec, hq] at *
              omega
            obtain ⟨q', hq', r0, r1, hn⟩ := q'
            have v0 : 0 < lv z + 1 := by omega
            have v1 : lv z + 1 ≤ 26 := by omega
            generalize lv z + 1 = v at *
            have w1 : IntKind.i64.wrap (26 * q) = 26 * q := by rw [IntKind.wrap_i64]; omega
            have w2 : IntKind.i64.wrap (26 * q + v) = 26 * q + v := by rw [IntKind.wrap_i64]; omega
            clear ec hz hzm z0 z1 hv nx
            go_wp2_with fail
            refine (L1.out _).mono ?_
            rintro en w3 ⟨rfl, rfl⟩
            go_wp2_with fail
            refine (L1.out _).mono ?_
            rintro en w3 ⟨rfl, rfl⟩
            go_wp2
            go_roundw
            case rel => exact ⟨k + 1, q', by go_num, rfl, r0, r1, hn, by first | trivial | rfl⟩
            case measure => simp [intOf]; omega
          · rw [Bool.not_eq_true] at hlet
            have hv := lv_not hlet
            have ek : k = p := by rw [← hp]; exact run_ends (by rw [hp]; exact hk.out.1) (by rw [hzm]; exact hlet)
            subst ek
            generalize lv z = v at *
            subst hv
            clear hz hzm z0 z1
            go_wp2_with fail
            refine (L1.out _).mono ?_
            rintro en w3 ⟨rfl, rfl⟩
            go_wp2
            go_meet
            exact ⟨by first | rfl | go_num, q, rfl, q0, q1, fun h => hk.out.2 h, by first | trivial | rfl⟩
        · have klt : ¬ ((o1 + k : Nat) : Int) < (s.size : Int) := by omega
          have ek : k = p := by
            have h1 := hk.out.1
            have h2 := run_le isLet m1
            have h3 := ml.out
            have h4 := sl.out
            omega
          subst ek
          go_wp2
          go_meet
          exact ⟨by first | rfl | go_num, q, rfl, q0, q1, fun h => hk.out.2 h, by first | trivial | rfl⟩
    case rest =>
      obtain ⟨rfl, q, rfl, q0, q1, hq, rfl⟩ := hcut
      obtain ⟨o2, ho2⟩ : ∃ o, o1 + p = o := ⟨_, rfl⟩
      rw [ho2]
      have opw : IntKind.i64.wrap ((o1 : Int) + 3) = (o1 : Int) + 3 := by rw [IntKind.wrap_i64]; omega
      by_cases hp0 : p = 0
      · have fe : Hid (parV l = ((Value.agg #[Value.int .i64 (0), Value.int .i64 (0), Value.bool false, Value.bool false]), 3)) := by
          unfold Hid; rw [PV'.out, hp, if_neg (by omega)]; unfold parN; exact if_pos (.inl hp0)
        have hb0 : ((o2 : Int) == (o1 : Int)) = true := by rw [beq_iff_eq]; omega
        have P0 := Lib.hid tw.out.p0; have HB := Lib.hid tw.out.hb
        clear tw hp hp0 ho2
        obtain ⟨⟨a0, a1, a2, a3⟩, f0⟩ := P0.out
        have g0 := f0 0; have g1 := f0 1; have g2 := f0 2; have g3 := f0 3
        clear f0
        go_wp2
        refine bodyPost_ret (v := .tuple #[(Value.agg #[Value.int .i64 (0), Value.int .i64 (0), Value.bool false, Value.bool false]), .int .i64 3]) (by simp [results, Tryd.results11, go_sem, *]) rfl (PL.out _ _ _ fe.out ?_)
        exact (((HB.out.setCell (Nat.le_refl _) _).setCell (Nat.le_refl _) _).setCell (Nat.le_refl _) _).setCell (Nat.le_refl _) _
      · have hb0 : ((o2 : Int) == (o1 : Int)) = false := by rw [beq_eq_false_iff_ne]; omega
        by_cases hp3 : 3 < p
        · have fe : Hid (parV l = ((Value.agg #[Value.int .i64 (0), Value.int .i64 (0), Value.bool false, Value.bool false]), 3)) := by
            unfold Hid; rw [PV'.out, hp, if_pos hp3]
          have hb3 : (o1 : Int) + 3 < (o2 : Int) := by omega
          have P0 := Lib.hid tw.out.p0; have HB := Lib.hid tw.out.hb
          clear tw hp ho2
          obtain ⟨⟨a0, a1, a2, a3⟩, f0⟩ := P0.out
          have g0 := f0 0; have g1 := f0 1; have g2 := f0 2; have g3 := f0 3
          clear f0
          go_wp2
          refine bodyPost_ret (v := .tuple #[(Value.agg #[Value.int .i64 (0), Value.int .i64 (0), Value.bool false, Value.bool false]), .int .i64 3]) (by simp [results, Tryd.results11, go_sem, *]) rfl (PL.out _ _ _ fe.out ?_)
          exact (((HB.out.setCell (Nat.le_refl _) _).setCell (Nat.le_refl _) _).setCell (Nat.le_refl _) _).setCell (Nat.le_refl _) _
        · have hb3 : ¬ (o1 : Int) + 3 < (o2 : Int) := by omega
          have pl := run_le isLet m1
          rw [hp] at pl
          have hdr : m1.drop p = l.drop o2 := by rw [HDL.out, List.drop_drop, ho2]
          have hdl2 := dolL_drop (m1.drop p)
          have hdb2 := dolB_at (l := l) (o := o2)
          have PN : Hid (parV l = parN x m1 p) := by unfold Hid; rw [PV'.out, hp, if_neg hp3]
          have hq' := hq.out (by omega)
          have cr := cvL_range p (by rw [hp]; exact Nat.le_refl _)
          have Q : Hid (q = cvL m1 p) := hq'
          obtain ⟨y, hy⟩ : ∃ y, dolB (m1.drop p) = y := ⟨_, rfl⟩
          obtain ⟨m3, hm3⟩ : ∃ m, behind m1 p = m := ⟨_, rfl⟩
          have PO : Hid (parV l = if okD m3 = false then ((Value.agg #[Value.int .i64 (0), Value.int .i64 (0), Value.bool false, Value.bool false]), 3) else if rgt (q - 1) (dvL m3 m3.length - 1) = true then ((Value.agg #[Value.int .i64 (q - 1), Value.int .i64 (dvL m3 m3.length - 1), Value.bool x, Value.bool y]), 0) else ((Value.agg #[Value.int .i64 (0), Value.int .i64 (0), Value.bool false, Value.bool false]), 14)) := by
            unfold Hid
            rw [PN.out]
            unfold parN
            rw [hm3, hy, ← Q.out]
            by_cases ho : okD m3 = false
            · rw [if_pos (.inr ho), if_pos ho]
            · rw [if_neg (fun h => h.elim hp0 ho), if_neg ho]
          have hm3' : dolL (m1.drop p) = m3 := hm3
          rw [hy, hm3', hdr, List.drop_drop] at hdl2
          rw [← hdr, hy] at hdb2
          have HDL2 := Lib.hid hdl2; have HDB2 := Lib.hid hdb2
          have o2l : o2 ≤ l.length := by rw [← ho2]; have := ml.out; have := o1l.out; omega
          have O2L := Lib.hid o2l
          clear hdr hdl2 hdb2 hy hm3 hm3' PN hq hq' hp3 hp0 cr pl hp ho2 Q o2l
          have o20 : (0 : Int) ≤ (o2 : Int) := by omega
          go_upto_region 13 with fail
          go_cut [65] (fun cv wx => cv = .bool y ∧ W2 = wx)
          case first =>
            by_cases h0 : o2 < s.size
            · have h0' : (o2 : Int) < (s.size : Int) := by omega
              have bs := BG.out o2 h0
              obtain ⟨z, hz⟩ : ∃ z, B l o2 = z := ⟨_, rfl⟩
              rw [hz] at bs
              have hx : y = decide (z = 36) := by
                have h := HDB2.out
                rw [hz, decide_eq_true (by rw [← sl.out]; exact h0), Bool.true_and] at h; exact h
              by_cases h36 : z = 36
              · have h36b : (z == 36) = true := by simpa using h36
                have ex : Hid (y = true) := by unfold Hid; rw [hx, decide_eq_true h36]
                clear hz hx h36
                go_wp2
                go_meet
                exact ⟨by rw [ex.out], by first | trivial | rfl⟩
              · have h36b : (z == 36) = false := by simpa using h36
                have ex : Hid (y = false) := by unfold Hid; rw [hx, decide_eq_false h36]
                clear hz hx h36
                go_wp2
                go_meet
                exact ⟨by rw [ex.out], by first | trivial | rfl⟩
            · have h0' : ¬ (o2 : Int) < (s.size : Int) := by omega
              have ex : Hid (y = false) := by
                unfold Hid
                have h := HDB2.out
                rw [decide_eq_false (by rw [← sl.out]; exact h0), Bool.false_and] at h; exact h
              go_wp2
              go_meet
              exact ⟨by rw [ex.out], by first | trivial | rfl⟩
          case rest =>
          obtain ⟨rfl, rfl⟩ := hcut
          have o2b : (o2 : Int) ≤ 1000 := by have := O2L.out; have := sl.out; omega
          have o2w : IntKind.i64.wrap ((o2 : Int) + 1) = (o2 : Int) + 1 := by rw [IntKind.wrap_i64]; omega
          obtain ⟨⟨a4, a5, a6, a7⟩, f1⟩ := tw.out.p1
          have f13 := f1 3
          clear f1
          go_upto_if 65 with fail
          go_cut [5] (fun iv wx => iv = .int .i64 ((o2 + b2n y : Nat) : Int) ∧ Hid (Two w x y wx))
          case first =>
            cases y
            · go_wp2
              go_meet
              exact ⟨rfl, tw.out⟩
            · go_wp2
              go_meet
              exact ⟨by first | rfl | go_num, tw.out.y⟩
          case rest =>
          obtain ⟨rfl, tw3⟩ := hcut
          obtain ⟨W3, hW3⟩ : ∃ W3, wc = W3 := ⟨_, rfl⟩
          rw [hW3] at tw3 ⊢
          clear hW3 a4 a5 a6 a7 f13 tw
          obtain ⟨o3, ho3⟩ : ∃ o, o2 + b2n y = o := ⟨_, rfl⟩
          rw [ho3] at HDL2 ⊢
          have o3l : Hid (o3 ≤ l.length) := by
            unfold Hid; rw [← ho3]; unfold b2n
            by_cases hx : y = true
            · rw [if_pos hx]
              have h := HDB2.out
              rw [hx] at h
              have h2 := h.symm
              rw [Bool.and_eq_true] at h2
              have := of_decide_eq_true h2.1
              omega
            · rw [if_neg hx]; exact O2L.out
          have Bm3 : Hid (∀ k, B m3 k = B l (o3 + k)) := fun k => by rw [HDL2.out, B_drop]
          have ml3 : Hid (m3.length = l.length - o3) := by unfold Hid; rw [HDL2.out, List.length_drop]
          have o3b : (o3 : Int) ≤ 1000 := by have := o3l.out; have := sl.out; omega
          have o30 : (0 : Int) ≤ (o3 : Int) := by omega
          obtain ⟨d, hd⟩ : ∃ d, run isDig m3 = d := ⟨_, rfl⟩
          have dl : d ≤ m3.length := by rw [← hd]; exact run_le _ _
          clear ho3 HDB2 o2b o2w o20 hb0 hb3 opw
          go_upto_block 2 with fail
          go_cut [5, 8] (fun iv rv wx => iv = .int .i64 ((o3 + d : Nat) : Int) ∧ ∃ r : Int, rv = .int .i64 r ∧ 0 ≤ r ∧ r ≤ 100000000 ∧ Hid (d ≤ 7 → r = dvL m3 d) ∧ W3 = wx)
          case first =>
            go_wp2_with fail
            go_loopw [5, 8] (fun iv rv wx => ∃ (k : Nat) (r : Int), iv = .int .i64 ((o3 + k : Nat) : Int) ∧ rv = .int .i64 r ∧ 0 ≤ r ∧ r ≤ 100000000 ∧ Hid (k ≤ d ∧ (k ≤ 7 → r = dvL m3 k)) ∧ W3 = wx) (fun iv _ _ => 1002 - (intOf iv).toNat)
            case atStart => exact ⟨0, 0, rfl, rfl, by omega, by omega, ⟨Nat.zero_le _, fun _ => rfl⟩, rfl⟩
            case round =>
              obtain ⟨k, r, rfl, rfl, r0, r1, hk, rfl⟩ := hrel
              have k0 : (0 : Int) ≤ ((o3 + k : Nat) : Int) := by omega
              by_cases hlt : o3 + k < s.size
              · have klt : ((o3 + k : Nat) : Int) < (s.size : Int) := by omega
                have bs := BG.out (o3 + k) hlt
                obtain ⟨z, hz⟩ : ∃ z, B l (o3 + k) = z := ⟨_, rfl⟩
                rw [hz] at bs
                have hzm : B m3 k = z := by rw [Bm3.out, hz]
                have hkm : k < m3.length := by rw [ml3.out, ← sl.out]; omega
                have ends : Hid (isDig z = false → k = d) := fun h => by rw [← hd]; exact run_ends (by rw [hd]; exact hk.out.1) (by rw [hzm]; exact h)
                by_cases y0 : 48 ≤ z
                · by_cases y1 : z ≤ 57
                  · have hdg : isDig z = true := decide_eq_true ⟨y0, y1⟩
                    have nx : k + 1 ≤ d := by rw [← hd]; exact run_more (by rw [hd]; exact hk.out.1) hkm (by rw [hzm]; exact hdg)
                    have ec : dvL m3 (k + 1) = 10 * dvL m3 k + (z - 48) := by rw [← hzm]; rfl
                    have q' : ∃ q', min (10 * r + (z - 48)) 100000000 = q' ∧ 0 ≤ q' ∧ q' ≤ 100000000 ∧ Hid (k + 1 ≤ d ∧ (k + 1 ≤ 7 → q' = dvL m3 (k + 1))) := by
                      refine ⟨_, rfl, by omega, by omega, nx, fun h3 => ?_⟩
                      have hq := hk.out.2 (by omega)
                      have := dvL_lt (k + 1) (by rw [hd]; exact nx)
                      have p10 : pow10 (k + 1) ≤ 10000000 := by
                        rcases k with _ | _ | _ | _ | _ | _ | _ | k
                        · decide
                        · decide
                        · decide
                        · decide
                        · decide
                        · decide
                        · decide
                        · omega
                      rw [ec] at *
                      rw [hq]
                      omega
                    obtain ⟨q', hq', s0, s1, hn⟩ := q'
                    have w0 : IntKind.i64.wrap (10 * r) = 10 * r := by rw [IntKind.wrap_i64]; omega
                    have w1 : IntKind.u8.wrap (z - 48) = z - 48 := by rw [IntKind.wrap_u8]; omega
                    have w2 : IntKind.i64.wrap (z - 48) = z - 48 := by rw [IntKind.wrap_i64]; omega
                    have w3 : IntKind.i64.wrap (10 * r + (z - 48)) = 10 * r + (z - 48) := by rw [IntKind.wrap_i64]; omega
                    clear ec hz hzm nx ends
                    go_wp2
                    go_roundw
                    case rel => exact ⟨k + 1, q', by go_num, rfl, s0, s1, hn, by first | trivial | rfl⟩
                    case measure => simp [intOf]; omega
                  · have ek := ends.out (decide_eq_false (by omega))
                    subst ek
                    clear hz hzm ends
                    go_wp2
                    go_meet
                    exact ⟨by first | rfl | go_num, r, rfl, r0, r1, fun h => hk.out.2 h, by first | trivial | rfl⟩
                · have ek := ends.out (decide_eq_false (by omega))
                  subst ek
                  clear hz hzm ends
                  go_wp2
                  go_meet
                  exact ⟨by first | rfl | go_num, r, rfl, r0, r1, fun h => hk.out.2 h, by first | trivial | rfl⟩
              · have klt : ¬ ((o3 + k : Nat) : Int) < (s.size : Int) := by omega
                have ek : k = d := by
                  have h1 := hk.out.1
                  have h3 := ml3.out
                  have h4 := sl.out
                  omega
                subst ek
                go_wp2
                go_meet
                exact ⟨by first | rfl | go_num, r, rfl, r0, r1, fun h => hk.out.2 h, by first | trivial | rfl⟩
          case rest =>
          obtain ⟨rfl, r, rfl, r0, r1, hr, rfl⟩ := hcut
          obtain ⟨o4, ho4⟩ : ∃ o, o3 + d = o := ⟨_, rfl⟩
          rw [ho4]
          have opw : IntKind.i64.wrap ((o3 : Int) + 7) = (o3 : Int) + 7 := by rw [IntKind.wrap_i64]; omega
          have bad : Hid ((d = 0 ∨ 7 < d ∨ d < m3.length ∨ B m3 0 = 48) → parV l = ((Value.agg #[Value.int .i64 (0), Value.int .i64 (0), Value.bool false, Value.bool false]), 3)) := by
            unfold Hid
            intro hh
            rw [PO.out]
            refine if_pos (decide_eq_false fun hok => ?_)
            obtain ⟨g1, g2, g3, g4⟩ := hok
            rw [hd] at g2
            have : 0 < m3.length := List.length_pos_iff.2 g1
            rcases hh with h | h | h | h
            · omega
            · omega
            · omega
            · exact g4 h
          have P0 := Lib.hid tw3.out.p0; have P1 := Lib.hid tw3.out.p1; have HB := Lib.hid tw3.out.hb; have SZ := Lib.hid tw3.out.sz
          clear tw3
          by_cases d0 : d = 0
          · have fe := Lib.hid (bad.out (.inl d0))
            have hb0 : ((o4 : Int) == (o3 : Int)) = true := by rw [beq_iff_eq]; omega
            clear bad hd ho4 d0
            obtain ⟨⟨a0, a1, a2, a3⟩, f0⟩ := P0.out
            have g0 := f0 0; have g1 := f0 1; have g2 := f0 2; have g3 := f0 3
            clear f0
            go_wp2
            refine bodyPost_ret (v := .tuple #[(Value.agg #[Value.int .i64 (0), Value.int .i64 (0), Value.bool false, Value.bool false]), .int .i64 3]) (by simp [results, Tryd.results11, go_sem, *]) rfl (PL.out _ _ _ fe.out ?_)
            exact (((HB.out.setCell (Nat.le_refl _) _).setCell (Nat.le_refl _) _).setCell (Nat.le_refl _) _).setCell (Nat.le_refl _) _
          · have hb0 : ((o4 : Int) == (o3 : Int)) = false := by rw [beq_eq_false_iff_ne]; omega
            by_cases d7 : 7 < d
            · have fe := Lib.hid (bad.out (.inr (.inl d7)))
              have hb3 : (o3 : Int) + 7 < (o4 : Int) := by omega
              clear bad hd ho4 d0
              obtain ⟨⟨a0, a1, a2, a3⟩, f0⟩ := P0.out
              have g0 := f0 0; have g1 := f0 1; have g2 := f0 2; have g3 := f0 3
              clear f0
              go_wp2
              refine bodyPost_ret (v := .tuple #[(Value.agg #[Value.int .i64 (0), Value.int .i64 (0), Value.bool false, Value.bool false]), .int .i64 3]) (by simp [results, Tryd.results11, go_sem, *]) rfl (PL.out _ _ _ fe.out ?_)
              exact (((HB.out.setCell (Nat.le_refl _) _).setCell (Nat.le_refl _) _).setCell (Nat.le_refl _) _).setCell (Nat.le_refl _) _
            · have hb3 : ¬ (o3 : Int) + 7 < (o4 : Int) := by omega
              by_cases dm : d < m3.length
              · have fe := Lib.hid (bad.out (.inr (.inr (.inl dm))))
                have hb4 : (o4 : Int) < (s.size : Int) := by have := ml3.out; have := sl.out; omega
                clear bad hd ho4 d0
                obtain ⟨⟨a0, a1, a2, a3⟩, f0⟩ := P0.out
                have g0 := f0 0; have g1 := f0 1; have g2 := f0 2; have g3 := f0 3
                clear f0
                go_wp2
                refine bodyPost_ret (v := .tuple #[(Value.agg #[Value.int .i64 (0), Value.int .i64 (0), Value.bool false, Value.bool false]), .int .i64 3]) (by simp [results, Tryd.results11, go_sem, *]) rfl (PL.out _ _ _ fe.out ?_)
                exact (((HB.out.setCell (Nat.le_refl _) _).setCell (Nat.le_refl _) _).setCell (Nat.le_refl _) _).setCell (Nat.le_refl _) _
              · have hb4 : ¬ (o4 : Int) < (s.size : Int) := by have := ml3.out; have := sl.out; have := o3l.out; omega
                have h3 : o3 < s.size := by have := ml3.out; have := sl.out; have := o3l.out; omega
                have h3i : (o3 : Int) < (s.size : Int) := by omega
                have bs := BG.out o3 h3
                obtain ⟨z, hz⟩ : ∃ z, B l o3 = z := ⟨_, rfl⟩
                have hz0 : B m3 0 = z := by rw [Bm3.out]; exact hz
                rw [hz] at bs
                by_cases h48 : z = 48
                · have fe := Lib.hid (bad.out (.inr (.inr (.inr (by rw [hz0]; exact h48)))))
                  have h48b : (z == 48) = true := by simpa using h48
                  clear bad hd ho4 d0 hz hz0
                  obtain ⟨⟨a0, a1, a2, a3⟩, f0⟩ := P0.out
                  have g0 := f0 0; have g1 := f0 1; have g2 := f0 2; have g3 := f0 3
                  clear f0
                  go_wp2
                  refine bodyPost_ret (v := .tuple #[(Value.agg #[Value.int .i64 (0), Value.int .i64 (0), Value.bool false, Value.bool false]), .int .i64 3]) (by simp [results, Tryd.results11, go_sem, *]) rfl (PL.out _ _ _ fe.out ?_)
                  exact (((HB.out.setCell (Nat.le_refl _) _).setCell (Nat.le_refl _) _).setCell (Nat.le_refl _) _).setCell (Nat.le_refl _) _
                · have h48b : (z == 48) = false := by simpa using h48
                  have hdm : d = m3.length := by omega
                  have hne : m3 ≠ [] := fun e => by rw [e] at hdm; simp at hdm; omega
                  have hok : okD m3 = true := decide_eq_true ⟨hne, by rw [hd, hdm], by omega, by rw [hz0]; exact h48⟩
                  have hrv : r = dvL m3 m3.length := by rw [← hdm]; exact hr.out (by omega)
                  have PF : Hid (parV l = if rgt (q - 1) (r - 1) = true then ((Value.agg #[Value.int .i64 (q - 1), Value.int .i64 (r - 1), Value.bool x, Value.bool y]), 0) else ((Value.agg #[Value.int .i64 (0), Value.int .i64 (0), Value.bool false, Value.bool false]), 14)) := by
                    unfold Hid; rw [PO.out, ← hrv]; exact if_neg (by rw [hok]; simp)
                  have w1 : IntKind.i64.wrap (q - 1) = q - 1 := by rw [IntKind.wrap_i64]; omega
                  have w2 : IntKind.i64.wrap (r - 1) = r - 1 := by rw [IntKind.wrap_i64]; omega
                  obtain ⟨ok, hk'⟩ : ∃ ok, rgt (q - 1) (r - 1) = ok := ⟨_, rfl⟩
                  rw [hk'] at PF
                  have RT := Lib.hid (fun W => rright_any (q - 1) (r - 1) x y W)
                  rw [hk'] at RT
                  have p0' := (P0.out.other (o := 0) (v := .int .i64 (q - 1)) (B' := w.heap.size + 1) (by omega)).other (o := 1) (v := .int .i64 (r - 1)) (B' := w.heap.size + 1) (by omega)
                  have p1' := (P1.out.setc (q - 1)).setr (r - 1)
                  have hb4' : Below w.heap.size w ((W3.setCell ⟨w.heap.size + 1, 0, none⟩ (.int .i64 (q - 1))).setCell ⟨w.heap.size + 1, 1, none⟩ (.int .i64 (r - 1))) := (HB.out.setCell (Nat.le_succ _) _).setCell (Nat.le_succ _) _
                  have sz4 : w.heap.size + 1 < ((W3.setCell ⟨w.heap.size + 1, 0, none⟩ (.int .i64 (q - 1))).setCell ⟨w.heap.size + 1, 1, none⟩ (.int .i64 (r - 1))).heap.size := by have := SZ.out; simp [World.setCell]; omega
                  obtain ⟨W4, hW4⟩ : ∃ W4, (W3.setCell ⟨w.heap.size + 1, 0, none⟩ (.int .i64 (q - 1))).setCell ⟨w.heap.size + 1, 1, none⟩ (.int .i64 (r - 1)) = W4 := ⟨_, rfl⟩
                  rw [hW4] at p0' p1' hb4' sz4
                  obtain ⟨⟨a4, a5, a6, a7⟩, f1⟩ := P1.out
                  have f10 := f1 0; have f11 := f1 1
                  have ⟨⟨b4, b5, b6, b7⟩, _⟩ := p1'
                  clear bad hd ho4 d0 hz hz0 hdm hne hok hrv hk' f1 P0 P1 HB SZ PO
                  go_wp2_with fail
                  refine (RT.out _).mono ?_
                  rintro en w5 ⟨rfl, hb5⟩
                  clear hW4 a4 a5 a6 a7 b4 b5 b6 b7 f10 f11
                  have P0 := Lib.hid (p0'.on hb5 (by omega))
                  have P1 := Lib.hid (p1'.on hb5 sz4)
                  have HB := Lib.hid (via hb4' hb5)
                  clear p0' p1' hb4' hb5 sz4
                  cases ok
                  · have fe : Hid (parV l = ((Value.agg #[Value.int .i64 (0), Value.int .i64 (0), Value.bool false, Value.bool false]), 14)) := by unfold Hid; rw [PF.out]; rfl
                    obtain ⟨⟨a0, a1, a2, a3⟩, f0⟩ := P0.out
                    have g0 := f0 0; have g1 := f0 1; have g2 := f0 2; have g3 := f0 3
                    clear f0
                    go_wp2
                    refine bodyPost_ret (v := .tuple #[(Value.agg #[Value.int .i64 (0), Value.int .i64 (0), Value.bool false, Value.bool false]), .int .i64 14]) (by simp [results, Tryd.results11, go_sem, *]) rfl (PL.out _ _ _ fe.out ?_)
                    exact (((HB.out.setCell (Nat.le_refl _) _).setCell (Nat.le_refl _) _).setCell (Nat.le_refl _) _).setCell (Nat.le_refl _) _
                  · have fe : Hid (parV l = ((Value.agg #[Value.int .i64 (q - 1), Value.int .i64 (r - 1), Value.bool x, Value.bool y]), 0)) := by unfold Hid; rw [PF.out]; rfl
                    obtain ⟨⟨b4, b5, b6, b7⟩, _⟩ := P1.out
                    obtain ⟨⟨a0, a1, a2, a3⟩, f0⟩ := P0.out
                    have g0 := f0 0; have g1 := f0 1; have g2 := f0 2; have g3 := f0 3
                    clear f0
                    go_wp2
                    refine bodyPost_ret (v := .tuple #[(Value.agg #[Value.int .i64 (q - 1), Value.int .i64 (r - 1), Value.bool x, Value.bool y]), .int .i64 0]) (by simp [results, Tryd.results11, go_sem, *]) rfl (PL.out _ _ _ fe.out ?_)
                    exact (((HB.out.setCell (Nat.le_refl _) _).setCell (Nat.le_refl _) _).setCell (Nat.le_refl _) _).setCell (Nat.le_refl _) _
end Go.Proofs.YtikcggbkkgipoaaDoor
