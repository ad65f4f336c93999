/-
  The document's cells: Cells: walked.
-/
import Derived.Test.YtikcggbkkgipoaaDoorB5
namespace Go.Proofs.YtikcggbkkgipoaaDoor
open Go.RowKit Go.Shelf
attribute [local go_sem] Oper.semAt_some

theorem rowL_succ (C : Int) (k : Nat) (x : Int) : (upto C (k + 1)).map (fun q => (q, x)) = (upto C k).map (fun q => (q, x)) ++ [(C + (k : Int), x)] := by rw [upto_succ, List.map_append]; rfl
theorem gridL_up (C : Int) (n : Nat) (R : Int) (k : Nat) : gridL C n (upto R (k + 1)) = gridL C n (upto R k) ++ rowL C n (R + (k : Int)) := by rw [upto_succ, gridL_snoc]
/-- A slice that owns cells of an area, in a memory that is as it was below B. -/
structure Got (B : Nat) (Wb : World) (l : List (Int × Int)) (v : Value) (W : World) : Prop where
  row : W.ownsRow B 23 4 v l.length (rowOf l)
  hb : Below B Wb W
theorem own_mono {W : World} {b b' : Nat} {e : TypeId} {size : Nat} {v : Value} {k : Nat} {xs : List Value} (h : W.ownsRow b e size v k xs) (hb : b' ≤ b) : W.ownsRow b' e size v k xs := by
  refine ⟨h.1, ?_⟩
  rcases h.2 with h2 | ⟨g, cap, cur, rfl, hg, rest⟩
  · exact .inl h2
  · exact .inr ⟨g, cap, cur, rfl, Nat.le_trans hb hg, rest⟩
theorem Got.app {B : Nat} {Wb W w3 : World} {l : List (Int × Int)} {v v' : Value} {q : Int × Int} {o : Obj} (h : Got B Wb l v W) (hs : B ≤ Wb.heap.size) (hown : w3.ownsRow B 23 4 v' (l.length + 1) (rowOf l ++ cell4 q)) (hg : (W.alloc o).grownBy w3 v.ownBlock) : Got B Wb (l ++ [q]) v' w3 := by
  have hz := h.hb.size
  refine ⟨?_, (h.hb.alloc (by omega) o).grown hg (by simp; omega) (fun k hk => (h.row.lt k hk).1)⟩
  rw [rowOf_snoc, List.length_append]; exact hown
set_option maxRecDepth 100000 in
set_option maxHeartbeats 4000000 in
theorem rcells_in (c r d s : Int) (x y u v : Bool) (w : World) (g1 : rgt c r = true) (g2 : rgt d s = true) :
    CallsIn Fence.wide 9 Tryd.prog 26 #[(Value.agg #[Value.int .i64 (c), Value.int .i64 (r), Value.bool x, Value.bool y]), (Value.agg #[Value.int .i64 (d), Value.int .i64 (s), Value.bool u, Value.bool v])] w fun e w' => ∃ vv, e = .returned vv ∧
      w'.ownsRow w.heap.size 23 4 vv (cellsL c r d s).length (rowOf (cellsL c r d s)) ∧ Below w.heap.size w w' := by
  obtain ⟨c0, c1, r0, r1⟩ := rgt_iff.1 g1
  obtain ⟨d0, d1, e0, e1⟩ := rgt_iff.1 g2
  have hcl : cellsL c r d s = gridL (min c d) (span (min c d) (max c d)) (upto (min r s) (span (min r s) (max r s))) := by
    unfold cellsL; rw [g1, g2]; exact if_pos rfl
  have hle := cellsL_le c r d s
  rw [hcl] at hle ⊢
  have kC : 0 ≤ min c d ∧ min c d ≤ max c d ∧ max c d < 64 := by omega
  have kR : 0 ≤ min r s ∧ min r s ≤ max r s ∧ max r s < 1000 := by omega
  have R1 := Lib.hid (fun W => rright_any c r x y W)
  have R2 := Lib.hid (fun W => rright_any d s u v W)
  rw [g1] at R1; rw [g2] at R2
  clear c0 c1 r0 r1 d0 d1 e0 e1 hcl g1 g2
  generalize hC : min c d = C at *
  generalize hD : max c d = D at *
  generalize hR : min r s = R at *
  generalize hS : max r s = S at *
  have KC := Lib.hid kC; have KR := Lib.hid kR
  obtain ⟨nC, hnC⟩ : ∃ n, span C D = n := ⟨_, rfl⟩
  obtain ⟨nR, hnR⟩ : ∃ n, span R S = n := ⟨_, rfl⟩
  have NC : Hid ((nC : Int) = D + 1 - C) := by unfold Hid; rw [← hnC]; unfold span; omega
  have NR : Hid ((nR : Int) = S + 1 - R) := by unfold Hid; rw [← hnR]; unfold span; omega
  rw [hnC, hnR] at hle ⊢
  have NN : Hid (nR * nC ≤ 64000) := by unfold Hid; rw [gridL_length, upto_length] at hle; exact hle
  clear kC kR hnC hnR hle
  obtain ⟨W, hW, p0, p1, hb, sz⟩ := bx2 w c r d s x y u v
  have P0 := Lib.hid p0; have P1 := Lib.hid p1; have HB := Lib.hid hb; have SZ := Lib.hid sz
  clear p1 hb sz
  obtain ⟨a00, a01, a02, a03⟩ := p0
  refine callsIn_of_wp Tryd.func26 rfl trivial ?_ rfl
  simp only [Tryd.ntmps26, List.size_toArray, List.length_cons, List.length_nil, Nat.reduceAdd, Nat.reduceSub, Array.replicate_succ, Array.replicate_zero, List.push_toArray, List.append_toArray, List.nil_append, List.cons_append]
  gi_wp2_with fail
  refine ⟨trivial, callsIn_wide.2 ((R1.out _).mono ?_)⟩
  rintro en w1 ⟨rfl, hb1⟩
  clear hW a00 a01 a02 a03
  have p0 := P0.out.on hb1 (by have := SZ.out; omega)
  have p1 := P1.out.on hb1 SZ.out
  have HB1 := Lib.hid (via HB.out hb1)
  have sz1 : w.heap.size + 1 < w1.heap.size := by have := hb1.size; have := SZ.out; omega
  clear hb1 P0 P1 HB SZ
  have P0 := Lib.hid p0; have P1 := Lib.hid p1; have SZ := Lib.hid sz1
  clear p0 sz1
  obtain ⟨a10, a11, a12, a13⟩ := p1
  gi_wp2_with fail
  refine ⟨trivial, callsIn_wide.2 ((R2.out _).mono ?_)⟩
  rintro en w2 ⟨rfl, hb2⟩
  clear a10 a11 a12 a13
  have p0 := P0.out.on hb2 (by have := SZ.out; omega)
  have p1 := P1.out.on hb2 SZ.out
  have HB2 := Lib.hid (via HB1.out hb2)
  have sz2 : w.heap.size + 1 < w2.heap.size := by have := hb2.size; have := SZ.out; omega
  clear hb2 P0 P1 HB1 SZ R1 R2
  have P0 := Lib.hid p0; have P1 := Lib.hid p1; have SZ := Lib.hid sz2
  clear sz2
  obtain ⟨a00, a01, a02, a03⟩ := p0
  obtain ⟨a10, a11, a12, a13⟩ := p1
  gi_wp2
  have w2' : w2 = w2 := rfl
  clear w2' a00 a01 a02 a03 a10 a11 a12 a13
  gi_loopw [5, 8] (fun ov rv wx => ∃ i : Nat, rv = .int .i64 (R + (i : Int)) ∧ i ≤ nR ∧ Hid (Got (w.heap.size + 2) w2 (gridL C nC (upto R i)) ov wx)) (fun _ rv _ => (S + 1 - intOf rv).toNat)
  case atStart => exact ⟨0, by simp, Nat.zero_le _, World.ownsRow_nil _ _ _ _, Below.refl _ _⟩
  case round =>
    obtain ⟨i, rfl, hi, gt⟩ := hrel
    have q0 := P0.out.on gt.out.hb (by omega)
    have q1 := P1.out.on gt.out.hb (by omega)
    obtain ⟨a00, a01, a02, a03⟩ := q0
    obtain ⟨a10, a11, a12, a13⟩ := q1
    by_cases hlt : R + (i : Int) ≤ S
    · have iw : IntKind.i64.wrap (R + (i : Int) + 1) = R + (i : Int) + 1 := by have := KR.out; rw [IntKind.wrap_i64]; omega
      gi_wp2
      gi_loopw [5, 9] (fun ov cv wx => ∃ j : Nat, cv = .int .i64 (C + (j : Int)) ∧ j ≤ nC ∧ Hid (Got (w.heap.size + 2) w2 (gridL C nC (upto R i) ++ (upto C j).map (fun q => (q, R + (i : Int)))) ov wx)) (fun _ cv _ => (D + 1 - intOf cv).toNat)
      case atStart => exact ⟨0, by simp, Nat.zero_le _, by unfold Hid; simpa [upto_zero] using gt.out⟩
      case round =>
        obtain ⟨j, rfl, hj, gt2⟩ := hrel
        clear a00 a01 a02 a03 a10 a11 a12 a13 gt
        have q0 := P0.out.on gt2.out.hb (by omega)
        have q1 := P1.out.on gt2.out.hb (by omega)
        obtain ⟨a00, a01, a02, a03⟩ := q0
        obtain ⟨a10, a11, a12, a13⟩ := q1
        by_cases hlt2 : C + (j : Int) ≤ D
        · have jw : IntKind.i64.wrap (C + (j : Int) + 1) = C + (j : Int) + 1 := by have := KC.out; rw [IntKind.wrap_i64]; omega
          obtain ⟨L, hL⟩ : ∃ L, gridL C nC (upto R i) ++ (upto C j).map (fun q => (q, R + (i : Int))) = L := ⟨_, rfl⟩
          have LL : Hid (gridL C nC (upto R i) ++ (upto C (j + 1)).map (fun q => (q, R + (i : Int))) = L ++ [(C + (j : Int), R + (i : Int))]) := by
            unfold Hid; rw [rowL_succ, ← List.append_assoc, hL]
          have Ll : L.length ≤ 64000 := by
            rw [← hL, List.length_append, gridL_length, upto_length, List.length_map, upto_length]
            have h1 := NN.out
            have h2 : (i + 1) * nC ≤ nR * nC := Nat.mul_le_mul_right _ (by have := NR.out; omega)
            rw [Nat.succ_mul] at h2
            omega
          rw [hL] at gt2
          clear hL
          have hbw := gt2.out.hb.size
          have hsz := SZ.out
          gi_wp2_with (gi_at_builtin; refine wpListIn_app _ rfl _ _ rfl (w.heap.size + 2) _ L.length (rowOf L) rfl (gt2.out.row.alloc _) ⟨wr.heap.size, 0, none⟩ 1 (cell4 (C + (j : Int), R + (i : Int))) rfl rfl (cell_four_new _ (C + (j : Int), R + (i : Int)) _) (by simp [cell4, Value.oneCell']) Ll (by simp; omega) ?_; intro v' w3 hown' hgrow hwh; clear hwh)
          have gt3 := gt2.out.app (by omega) hown' hgrow
          go_roundw
          case rel => exact ⟨j + 1, by go_num, by have := NC.out; omega, by rw [LL.out]; exact gt3⟩
          case measure => simp [intOf]; omega
        · have ej : j = nC := by have := NC.out; omega
          subst ej
          gi_wp2
          go_roundw
          case rel => exact ⟨i + 1, by go_num, by have := NR.out; omega, by rw [gridL_up]; exact gt2.out⟩
          case measure => simp [intOf]; omega
    · have ei : i = nR := by have := NR.out; omega
      subst ei
      gi_wp2
      go_ret
      exact ⟨_, rfl, own_mono gt.out.row (by omega), HB2.out.trans (gt.out.hb.mono (by omega))⟩
theorem rcells_any (c r d s : Int) (x y u v : Bool) (w : World) :
    Calls Tryd.prog 26 #[(Value.agg #[Value.int .i64 (c), Value.int .i64 (r), Value.bool x, Value.bool y]), (Value.agg #[Value.int .i64 (d), Value.int .i64 (s), Value.bool u, Value.bool v])] w fun e w' => ∃ vv, e = .returned vv ∧
      w'.ownsRow w.heap.size 23 4 vv (cellsL c r d s).length (rowOf (cellsL c r d s)) ∧ Below w.heap.size w w' := by
  by_cases g : (rgt c r && rgt d s) = true
  · rw [Bool.and_eq_true] at g
    exact (callsIn_wide (n := 9)).1 (rcells_in c r d s x y u v w g.1 g.2)
  · have hcl : cellsL c r d s = [] := by unfold cellsL; exact if_neg g
    rw [hcl]
    obtain ⟨W, hW, p0, p1, hb, sz⟩ := bx2 w c r d s x y u v
    have P0 := Lib.hid p0; have P1 := Lib.hid p1; have HB := Lib.hid hb; have SZ := Lib.hid sz
    clear p1 hb sz
    obtain ⟨a00, a01, a02, a03⟩ := p0
    have R1 := Lib.hid (fun W => rright_any c r x y W)
    have R2 := Lib.hid (fun W => rright_any d s u v W)
    obtain ⟨p, hp⟩ : ∃ p, rgt c r = p := ⟨_, rfl⟩
    obtain ⟨q, hq⟩ : ∃ q, rgt d s = q := ⟨_, rfl⟩
    rw [hp] at R1; rw [hq] at R2; rw [hp, hq] at g
    have fin : ∀ w3, Below w.heap.size w w3 → w3.ownsRow w.heap.size 23 4 (.slice none 0 0) ([] : List (Int × Int)).length (rowOf []) ∧ Below w.heap.size w w3 := fun w3 h => ⟨World.ownsRow_nil _ _ _ _, h⟩
    have FIN := Lib.hid fin
    clear hp hq hcl fin
    go_enter Tryd.func26, Tryd.ntmps26
    go_wp2_with fail
    refine (R1.out _).mono ?_
    rintro en w1 ⟨rfl, hb1⟩
    clear hW a00 a01 a02 a03
    obtain ⟨a10, a11, a12, a13⟩ := P1.out.on hb1 SZ.out
    have HB1 := Lib.hid (via HB.out hb1)
    clear hb1
    go_wp2_with fail
    refine (R2.out _).mono ?_
    rintro en w2 ⟨rfl, hb2⟩
    clear a10 a11 a12 a13
    have HB2 := Lib.hid (via HB1.out hb2)
    clear hb2
    cases p <;> cases q
    · go_wp2
      go_ret
      exact ⟨_, rfl, FIN.out _ HB2.out⟩
    · go_wp2
      go_ret
      exact ⟨_, rfl, FIN.out _ HB2.out⟩
    · go_wp2
      go_ret
      exact ⟨_, rfl, FIN.out _ HB2.out⟩
    · simp at g
end Go.Proofs.YtikcggbkkgipoaaDoor
