/-
  The document's decimals: at, size, Cmp: walked.
-/
import Derived.Test.YtgjhpcmpgkfnkaaDoorA8
namespace Go.Proofs.YtgjhpcmpgkfnkaaDoor
open Go.RowKit Go.Shelf

theorem rat_any (b : Bool) (s : ByteArray) (x p : Int) (w : World) (hs : s.size ≤ 1000000) (hx : -1000000 ≤ x ∧ x ≤ 1000000) (hp : -1000000 ≤ p ∧ p ≤ 1000000) :
    Calls Tryd.prog 40 #[.agg #[.bool b, .string s, .int .i64 x], .int .i64 p] w fun e w' => e = .returned (.int .u8 (atV s.data.toList ((s.size : Int) - 1 + x - p))) ∧ Below w.heap.size w w' := by
  have SZ := bytes_size s
  obtain ⟨l, hl⟩ : ∃ l, s.data.toList = l := ⟨_, rfl⟩
  have BG := Lib.hid (fun k hk => B_get (s := s) (k := k) hl hk)
  rw [hl] at SZ ⊢
  clear hl
  have w1 : IntKind.i64.wrap ((s.size : Int) - 1) = (s.size : Int) - 1 := by rw [IntKind.wrap_i64]; omega
  have w2 : IntKind.i64.wrap ((s.size : Int) - 1 + x) = (s.size : Int) - 1 + x := by rw [IntKind.wrap_i64]; omega
  obtain ⟨j, hj⟩ : ∃ j, (s.size : Int) - 1 + x - p = j := ⟨_, rfl⟩
  have w3 : IntKind.i64.wrap ((s.size : Int) - 1 + x - p) = j := by rw [IntKind.wrap_i64]; omega
  rw [hj]
  clear hj hx hp
  by_cases h1 : j < 0
  · have A : Hid (atV l j = 48) := if_neg (by omega)
    clear SZ BG
    go_enter Tryd.func40, Tryd.ntmps40
    go_wp2
    go_ret
    exact ⟨by rw [A.out]; rfl, by (repeat' first | exact Below.refl _ _ | refine Below.alloc ?_ ?_ _ | refine Below.setCell ?_ ?_ _ | refine below_drewN ?_ _ | (simp; done) | (simp; omega))⟩
  · by_cases h2 : j < (s.size : Int)
    · obtain ⟨k, rfl⟩ : ∃ k : Nat, j = (k : Int) := ⟨j.toNat, by omega⟩
      have hk : k < s.size := by omega
      have A : Hid (atV l (k : Int) = B l k) := if_pos (by omega)
      have bk := BG.out k hk
      obtain ⟨z, hz⟩ : ∃ z, B l k = z := ⟨_, rfl⟩
      rw [hz] at bk A
      clear SZ BG hz
      have k0 : (0 : Int) ≤ (k : Int) := by omega
      go_enter Tryd.func40, Tryd.ntmps40
      go_wp2
      go_ret
      exact ⟨by rw [A.out]; rfl, by (repeat' first | exact Below.refl _ _ | refine Below.alloc ?_ ?_ _ | refine Below.setCell ?_ ?_ _ | refine below_drewN ?_ _ | (simp; done) | (simp; omega))⟩
    · have A : Hid (atV l j = 48) := if_neg (by omega)
      have h3 : (s.size : Int) ≤ j := by omega
      clear SZ BG
      go_enter Tryd.func40, Tryd.ntmps40
      go_wp2
      go_ret
      exact ⟨by rw [A.out]; rfl, by (repeat' first | exact Below.refl _ _ | refine Below.alloc ?_ ?_ _ | refine Below.setCell ?_ ?_ _ | refine below_drewN ?_ _ | (simp; done) | (simp; omega))⟩
/-- The document's order without signs. -/
def rsizeV (l : List UInt8) (x : Int) (m : List UInt8) (y : Int) : Int :=
  if l = [] ∨ m = [] then (if l ≠ [] then 1 else if m ≠ [] then -1 else 0) else sizeV l x m y
set_option maxRecDepth 100000 in
set_option maxHeartbeats 8000000 in
theorem rsize_any (b : Bool) (s : ByteArray) (x : Int) (c : Bool) (t : ByteArray) (y : Int) (w : World) (hs : s.size ≤ 1000000) (ht : t.size ≤ 1000000) (g1 : rightV s.data.toList x = true) (g2 : rightV t.data.toList y = true) :
    Calls Tryd.prog 33 #[.agg #[.bool b, .string s, .int .i64 x], .agg #[.bool c, .string t, .int .i64 y]] w fun e w' => e = .returned (.int .i64 (rsizeV s.data.toList x t.data.toList y)) ∧ Below w.heap.size w w' := by
  have PA := Lib.hid (fun W => rpoint_any b s x W hs)
  have PB := Lib.hid (fun W => rpoint_any c t y W ht)
  have l1 := rightV_len g1
  have l2 := rightV_len g2
  have SZ := bytes_size s
  have TZ := bytes_size t
  have P1 : pointV s.data.toList x = (s.size : Int) + x := by unfold pointV; rw [if_pos g1, SZ]
  have P2 : pointV t.data.toList y = (t.size : Int) + y := by unfold pointV; rw [if_pos g2, TZ]
  have AT1 := Lib.hid (fun (k : Nat) (hk : k ≤ 1100) W => (by have h := rat_any b s x ((s.size : Int) + x - 1 - (k : Int)) W hs (by omega) (by omega); rw [show (s.size : Int) - 1 + x - ((s.size : Int) + x - 1 - (k : Int)) = (k : Int) by omega, atV_nat] at h; exact h : Calls Tryd.prog 40 #[.agg #[.bool b, .string s, .int .i64 x], .int .i64 ((s.size : Int) + x - 1 - (k : Int))] W fun e w' => e = .returned (.int .u8 (BP s.data.toList k)) ∧ Below W.heap.size W w'))
  have AT2 := Lib.hid (fun (k : Nat) (hk : k ≤ 1100) W => (by have h := rat_any c t y ((t.size : Int) + y - 1 - (k : Int)) W ht (by omega) (by omega); rw [show (t.size : Int) - 1 + y - ((t.size : Int) + y - 1 - (k : Int)) = (k : Int) by omega, atV_nat] at h; exact h : Calls Tryd.prog 40 #[.agg #[.bool c, .string t, .int .i64 y], .int .i64 ((t.size : Int) + y - 1 - (k : Int))] W fun e w' => e = .returned (.int .u8 (BP t.data.toList k)) ∧ Below W.heap.size W w'))
  have CB := cmpB_right g1 g2
  have STEP := Lib.hid (fun k hk => cmpP_step s.data.toList t.data.toList (rightV_digs g1) (rightV_digs g2) k hk)
  have END := Lib.hid (fun k h1 h2 => cmpP_end s.data.toList t.data.toList k h1 h2)
  have R1 := Lib.hid (fun k => BP_range s.data.toList k)
  have R2 := Lib.hid (fun k => BP_range t.data.toList k)
  have RS : Hid (sizeV s.data.toList x t.data.toList y = if pointV s.data.toList x < pointV t.data.toList y then -1 else if pointV t.data.toList y < pointV s.data.toList x then 1 else Lib.compareBytes s.data.toList t.data.toList) := rfl
  have RV : Hid (rsizeV s.data.toList x t.data.toList y = if s.data.toList = [] ∨ t.data.toList = [] then (if s.data.toList ≠ [] then 1 else if t.data.toList ≠ [] then -1 else 0) else sizeV s.data.toList x t.data.toList y) := rfl
  obtain ⟨l, hl⟩ : ∃ l, s.data.toList = l := ⟨_, rfl⟩
  obtain ⟨m, hm⟩ : ∃ l, t.data.toList = l := ⟨_, rfl⟩
  rw [hl] at PA SZ AT1 STEP END R1 RS RV P1 l1 CB ⊢
  rw [hm] at PB TZ AT2 STEP END R2 RS RV P2 l2 CB ⊢
  rw [P1] at PA RS
  rw [P2] at PB RS
  rw [CB] at RS
  clear hl hm g1 g2 P1 P2 CB
  obtain ⟨p, hp⟩ : ∃ p, (s.size : Int) + x = p := ⟨_, rfl⟩
  obtain ⟨q, hq⟩ : ∃ p, (t.size : Int) + y = p := ⟨_, rfl⟩
  rw [hp] at PA AT1 RS
  rw [hq] at PB AT2 RS
  have p0 : -100000 ≤ p ∧ p ≤ 101100 := by omega
  have q0 : -100000 ≤ q ∧ q ≤ 101100 := by omega
  have s1 : s.size ≤ 1100 := by omega
  have t1 : t.size ≤ 1100 := by omega
  clear hp hq l1 l2
  obtain ⟨z, hz⟩ : ∃ z, rsizeV l x m y = z := ⟨_, rfl⟩
  rw [hz] at RV ⊢
  clear hz
  obtain ⟨W1, W, hW1, sW1, hW, ⟨e0, e1, e2⟩, ⟨f0, f1, f2⟩, hbW, sz⟩ := boxD2 w b s x c t y
  have KS : Hid (∀ A Z : World, ((A.cell? ⟨w.heap.size, 0, none⟩ = some (.bool b) ∧ A.cell? ⟨w.heap.size, 1, none⟩ = some (.string s) ∧ A.cell? ⟨w.heap.size, 2, none⟩ = some (.int .i64 x) ∧ A.cell? ⟨w.heap.size + 1, 0, none⟩ = some (.bool c) ∧ A.cell? ⟨w.heap.size + 1, 1, none⟩ = some (.string t) ∧ A.cell? ⟨w.heap.size + 1, 2, none⟩ = some (.int .i64 y)) ∧ ((w.heap.size < A.heap.size ∧ w.heap.size + 1 < A.heap.size) ∧ Below w.heap.size w A)) → Below A.heap.size A Z → ((Z.cell? ⟨w.heap.size, 0, none⟩ = some (.bool b) ∧ Z.cell? ⟨w.heap.size, 1, none⟩ = some (.string s) ∧ Z.cell? ⟨w.heap.size, 2, none⟩ = some (.int .i64 x) ∧ Z.cell? ⟨w.heap.size + 1, 0, none⟩ = some (.bool c) ∧ Z.cell? ⟨w.heap.size + 1, 1, none⟩ = some (.string t) ∧ Z.cell? ⟨w.heap.size + 1, 2, none⟩ = some (.int .i64 y)) ∧ ((w.heap.size < Z.heap.size ∧ w.heap.size + 1 < Z.heap.size) ∧ Below w.heap.size w Z))) := by
    rintro A Z ⟨⟨h0, h1, h2, h3, h4, h5⟩, ⟨l0, l1⟩, hb⟩ hx
    have hz := hx.size
    refine ⟨⟨(hx.cell (p := ⟨w.heap.size, 0, none⟩) l0).trans h0, (hx.cell (p := ⟨w.heap.size, 1, none⟩) l0).trans h1, (hx.cell (p := ⟨w.heap.size, 2, none⟩) l0).trans h2, (hx.cell (p := ⟨w.heap.size + 1, 0, none⟩) l1).trans h3, (hx.cell (p := ⟨w.heap.size + 1, 1, none⟩) l1).trans h4, (hx.cell (p := ⟨w.heap.size + 1, 2, none⟩) l1).trans h5⟩, ⟨by omega, by omega⟩, via hb hx⟩
  have ST : Hid ((W.cell? ⟨w.heap.size, 0, none⟩ = some (.bool b) ∧ W.cell? ⟨w.heap.size, 1, none⟩ = some (.string s) ∧ W.cell? ⟨w.heap.size, 2, none⟩ = some (.int .i64 x) ∧ W.cell? ⟨w.heap.size + 1, 0, none⟩ = some (.bool c) ∧ W.cell? ⟨w.heap.size + 1, 1, none⟩ = some (.string t) ∧ W.cell? ⟨w.heap.size + 1, 2, none⟩ = some (.int .i64 y)) ∧ ((w.heap.size < W.heap.size ∧ w.heap.size + 1 < W.heap.size) ∧ Below w.heap.size w W)) := ⟨⟨e0, e1, e2, f0, f1, f2⟩, ⟨by omega, by omega⟩, hbW⟩
  clear hbW sz e0 e1 e2 f0 f1 f2
  by_cases h1 : l = []
  · have i1 : (s.size : Int) = 0 := by rw [SZ, h1]; rfl
    by_cases h2 : m = []
    · have i2 : (t.size : Int) = 0 := by rw [TZ, h2]; rfl
      have A : Hid (z = 0) := by unfold Hid; rw [RV.out, if_pos (Or.inl h1), if_neg (by simpa using h1), if_neg (by simpa using h2)]
      clear RV RS STEP END SZ TZ R1 R2
      obtain ⟨⟨z0, z1, z2, z3, z4, z5⟩, zl, zB⟩ := ST.out
      clear zl zB
      go_enter Tryd.func33, Tryd.ntmps33
      go_wp2
      go_ret
      exact ⟨by rw [A.out]; rfl, ST.out.2.2⟩
    · have j2 : (0 : Int) < (t.size : Int) := by have : t.size ≠ 0 := fun e => h2 (List.eq_nil_of_length_eq_zero (by omega)); omega
      have A : Hid (z = -1) := by unfold Hid; rw [RV.out, if_pos (Or.inl h1), if_neg (by simpa using h1), if_pos h2]
      clear RV RS STEP END SZ TZ R1 R2
      obtain ⟨⟨z0, z1, z2, z3, z4, z5⟩, zl, zB⟩ := ST.out
      clear zl zB
      go_enter Tryd.func33, Tryd.ntmps33
      go_wp2
      go_ret
      exact ⟨by rw [A.out]; rfl, ST.out.2.2⟩
  · have j1 : (0 : Int) < (s.size : Int) := by have : s.size ≠ 0 := fun e => h1 (List.eq_nil_of_length_eq_zero (by omega)); omega
    have i1 : ((s.size : Int) == 0) = false := by simpa using fun e : s.size = 0 => h1 (List.eq_nil_of_length_eq_zero (by omega))
    have n1 : ¬ (s.size : Int) = 0 := by omega
    by_cases h2 : m = []
    · have i2 : (t.size : Int) = 0 := by rw [TZ, h2]; rfl
      have A : Hid (z = 1) := by unfold Hid; rw [RV.out, if_pos (Or.inr h2), if_pos h1]
      clear RV RS STEP END SZ TZ R1 R2
      obtain ⟨⟨z0, z1, z2, z3, z4, z5⟩, zl, zB⟩ := ST.out
      clear zl zB
      go_enter Tryd.func33, Tryd.ntmps33
      go_wp2
      go_ret
      exact ⟨by rw [A.out]; rfl, ST.out.2.2⟩
    · have j2 : (0 : Int) < (t.size : Int) := by have : t.size ≠ 0 := fun e => h2 (List.eq_nil_of_length_eq_zero (by omega)); omega
      have i2 : ((t.size : Int) == 0) = false := by simpa using fun e : t.size = 0 => h2 (List.eq_nil_of_length_eq_zero (by omega))
      have n2 : ¬ (t.size : Int) = 0 := by omega
      replace RV := Lib.hid ((RV.out.trans (if_neg (fun e => e.elim h1 h2))).trans RS.out)
      clear RS
      have pq1 : -100000 ≤ p := p0.1
      by_cases h3 : p < q
      · have h4 : (p != q) = true := by simp; omega
        have A : Hid (z = -1) := by unfold Hid; rw [RV.out, if_pos h3]
        clear RV STEP END SZ TZ R1 R2
        obtain ⟨⟨z0, z1, z2, z3, z4, z5⟩, zl, zB⟩ := ST.out
        clear zl zB
        go_enter Tryd.func33, Tryd.ntmps33
        go_wp2_with fail
        refine (PA.out _).mono ?_
        rintro e w1x ⟨rfl, hb⟩
        have ST1 := Lib.hid (KS.out _ _ ST.out hb)
        clear hb
        clear z0 z1 z2 z3 z4 z5
        obtain ⟨⟨z0, z1, z2, z3, z4, z5⟩, zl, zB⟩ := ST1.out
        clear zl zB
        go_wp2_with fail
        refine (PB.out _).mono ?_
        rintro e w2x ⟨rfl, hb⟩
        have ST2 := Lib.hid (KS.out _ _ ST1.out hb)
        clear hb
        clear z0 z1 z2 z3 z4 z5
        obtain ⟨⟨z0, z1, z2, z3, z4, z5⟩, zl, zB⟩ := ST2.out
        clear zl zB
        go_wp2
        go_ret
        exact ⟨by rw [A.out]; rfl, ST2.out.2.2⟩
      · by_cases h5 : q < p
        · have h4 : (p != q) = true := by simp; omega
          have A : Hid (z = 1) := by unfold Hid; rw [RV.out, if_neg h3, if_pos h5]
          clear RV STEP END SZ TZ R1 R2
          obtain ⟨⟨z0, z1, z2, z3, z4, z5⟩, zl, zB⟩ := ST.out
          clear zl zB
          go_enter Tryd.func33, Tryd.ntmps33
          go_wp2_with fail
          refine (PA.out _).mono ?_
          rintro e w1x ⟨rfl, hb⟩
          have ST1 := Lib.hid (KS.out _ _ ST.out hb)
          clear hb
          clear z0 z1 z2 z3 z4 z5
          obtain ⟨⟨z0, z1, z2, z3, z4, z5⟩, zl, zB⟩ := ST1.out
          clear zl zB
          go_wp2_with fail
          refine (PB.out _).mono ?_
          rintro e w2x ⟨rfl, hb⟩
          have ST2 := Lib.hid (KS.out _ _ ST1.out hb)
          clear hb
          clear z0 z1 z2 z3 z4 z5
          obtain ⟨⟨z0, z1, z2, z3, z4, z5⟩, zl, zB⟩ := ST2.out
          clear zl zB
          go_wp2
          go_ret
          exact ⟨by rw [A.out]; rfl, ST2.out.2.2⟩
        · obtain rfl : p = q := by omega
          replace RV := Lib.hid ((RV.out.trans (if_neg h3)).trans (if_neg h3))
          have h4 : (p != p) = false := by simp
          replace SZ := Lib.hid SZ; replace TZ := Lib.hid TZ
          obtain ⟨⟨z0, z1, z2, z3, z4, z5⟩, zl, zB⟩ := ST.out
          clear zl zB
          go_enter Tryd.func33, Tryd.ntmps33
          go_wp2_with fail
          refine (PA.out _).mono ?_
          rintro e w1x ⟨rfl, hb⟩
          have ST1 := Lib.hid (KS.out _ _ ST.out hb)
          clear hb
          clear z0 z1 z2 z3 z4 z5
          obtain ⟨⟨z0, z1, z2, z3, z4, z5⟩, zl, zB⟩ := ST1.out
          clear zl zB
          go_wp2_with fail
          refine (PB.out _).mono ?_
          rintro e w2x ⟨rfl, hb⟩
          have ST2 := Lib.hid (KS.out _ _ ST1.out hb)
          clear hb
          clear z0 z1 z2 z3 z4 z5
          obtain ⟨⟨z0, z1, z2, z3, z4, z5⟩, zl, zB⟩ := ST2.out
          clear zl zB
          clear z0 z1 z2 z3 z4 z5
          go_wp2
          go_loopw [7] (fun iv wx => ∃ k : Nat, iv = .int .i64 (k : Int) ∧ k ≤ 1100 ∧ Hid (cmpP l m = cmpP (l.drop k) (m.drop k)) ∧ Hid ((wx.cell? ⟨w.heap.size, 0, none⟩ = some (.bool b) ∧ wx.cell? ⟨w.heap.size, 1, none⟩ = some (.string s) ∧ wx.cell? ⟨w.heap.size, 2, none⟩ = some (.int .i64 x) ∧ wx.cell? ⟨w.heap.size + 1, 0, none⟩ = some (.bool c) ∧ wx.cell? ⟨w.heap.size + 1, 1, none⟩ = some (.string t) ∧ wx.cell? ⟨w.heap.size + 1, 2, none⟩ = some (.int .i64 y)) ∧ ((w.heap.size < wx.heap.size ∧ w.heap.size + 1 < wx.heap.size) ∧ Below w.heap.size w wx))) (fun iv _ => 1101 - (intOf iv).toNat)
          case atStart => exact ⟨0, rfl, by omega, rfl, ST2⟩
          case round =>
            obtain ⟨k, rfl, hk, hd, STL⟩ := hrel
            have k0 : (0 : Int) ≤ (k : Int) := by omega
            have v1 : IntKind.i64.wrap (p - 1) = p - 1 := by rw [IntKind.wrap_i64]; omega
            have v2 : IntKind.i64.wrap (p - 1 - (k : Int)) = p - 1 - (k : Int) := by rw [IntKind.wrap_i64]; omega
            have v3 : IntKind.i64.wrap ((k : Int) + 1) = (k : Int) + 1 := by rw [IntKind.wrap_i64]; omega
            by_cases k1 : (k : Int) < (s.size : Int)
            · have SP := Lib.hid (STEP.out k (by have := SZ.out; have := TZ.out; omega))
              have a1 := R1.out k; have a2 := R2.out k
              have T1 := Lib.hid (fun W => AT1.out k (by omega) W); have T2 := Lib.hid (fun W => AT2.out k (by omega) W)
              obtain ⟨X, hX⟩ : ∃ X, BP l k = X := ⟨_, rfl⟩
              obtain ⟨Y, hY⟩ : ∃ X, BP m k = X := ⟨_, rfl⟩
              rw [hX] at T1 SP a1; rw [hY] at T2 SP a2
              clear hX hY
              by_cases c1 : X < Y
              · have c2 : ¬ Y < X := by omega
                have A : Hid (z = -1) := by unfold Hid; rw [RV.out, hd.out, SP.out, if_pos c1]
                clear SP
                obtain ⟨⟨z0, z1, z2, z3, z4, z5⟩, zl, zB⟩ := STL.out
                clear zl zB
                go_wp2_with fail
                refine (T1.out _).mono ?_
                rintro e w3x ⟨rfl, hb⟩
                have ST3 := Lib.hid (KS.out _ _ STL.out hb)
                clear hb
                clear z0 z1 z2 z3 z4 z5
                obtain ⟨⟨z0, z1, z2, z3, z4, z5⟩, zl, zB⟩ := ST3.out
                clear zl zB
                go_wp2_with fail
                refine (T2.out _).mono ?_
                rintro e w4x ⟨rfl, hb⟩
                have ST4 := Lib.hid (KS.out _ _ ST3.out hb)
                clear hb
                clear z0 z1 z2 z3 z4 z5
                obtain ⟨⟨z0, z1, z2, z3, z4, z5⟩, zl, zB⟩ := ST4.out
                clear zl zB
                go_wp2
                go_ret
                exact ⟨by rw [A.out]; rfl, ST4.out.2.2⟩
              · by_cases c2 : Y < X
                · skip
                  have A : Hid (z = 1) := by unfold Hid; rw [RV.out, hd.out, SP.out, if_neg c1, if_pos c2]
                  clear SP
                  obtain ⟨⟨z0, z1, z2, z3, z4, z5⟩, zl, zB⟩ := STL.out
                  clear zl zB
                  go_wp2_with fail
                  refine (T1.out _).mono ?_
                  rintro e w3x ⟨rfl, hb⟩
                  have ST3 := Lib.hid (KS.out _ _ STL.out hb)
                  clear hb
                  clear z0 z1 z2 z3 z4 z5
                  obtain ⟨⟨z0, z1, z2, z3, z4, z5⟩, zl, zB⟩ := ST3.out
                  clear zl zB
                  go_wp2_with fail
                  refine (T2.out _).mono ?_
                  rintro e w4x ⟨rfl, hb⟩
                  have ST4 := Lib.hid (KS.out _ _ ST3.out hb)
                  clear hb
                  clear z0 z1 z2 z3 z4 z5
                  obtain ⟨⟨z0, z1, z2, z3, z4, z5⟩, zl, zB⟩ := ST4.out
                  clear zl zB
                  go_wp2
                  go_ret
                  exact ⟨by rw [A.out]; rfl, ST4.out.2.2⟩
                · skip
                  have A : Hid (cmpP l m = cmpP (l.drop (k + 1)) (m.drop (k + 1))) := by unfold Hid; rw [hd.out, SP.out, if_neg c1, if_neg c2]
                  clear SP
                  obtain ⟨⟨z0, z1, z2, z3, z4, z5⟩, zl, zB⟩ := STL.out
                  clear zl zB
                  go_wp2_with fail
                  refine (T1.out _).mono ?_
                  rintro e w3x ⟨rfl, hb⟩
                  have ST3 := Lib.hid (KS.out _ _ STL.out hb)
                  clear hb
                  clear z0 z1 z2 z3 z4 z5
                  obtain ⟨⟨z0, z1, z2, z3, z4, z5⟩, zl, zB⟩ := ST3.out
                  clear zl zB
                  go_wp2_with fail
                  refine (T2.out _).mono ?_
                  rintro e w4x ⟨rfl, hb⟩
                  have ST4 := Lib.hid (KS.out _ _ ST3.out hb)
                  clear hb
                  clear z0 z1 z2 z3 z4 z5
                  obtain ⟨⟨z0, z1, z2, z3, z4, z5⟩, zl, zB⟩ := ST4.out
                  clear zl zB
                  go_wp2
                  go_roundw
                  case rel => exact ⟨k + 1, by go_num, by omega, A, ST4⟩
                  case measure => simp [intOf]; omega
            · by_cases k2 : (k : Int) < (t.size : Int)
              · have SP := Lib.hid (STEP.out k (by have := SZ.out; have := TZ.out; omega))
                have a1 := R1.out k; have a2 := R2.out k
                have T1 := Lib.hid (fun W => AT1.out k (by omega) W); have T2 := Lib.hid (fun W => AT2.out k (by omega) W)
                obtain ⟨X, hX⟩ : ∃ X, BP l k = X := ⟨_, rfl⟩
                obtain ⟨Y, hY⟩ : ∃ X, BP m k = X := ⟨_, rfl⟩
                rw [hX] at T1 SP a1; rw [hY] at T2 SP a2
                clear hX hY
                by_cases c1 : X < Y
                · have c2 : ¬ Y < X := by omega
                  have A : Hid (z = -1) := by unfold Hid; rw [RV.out, hd.out, SP.out, if_pos c1]
                  clear SP
                  obtain ⟨⟨z0, z1, z2, z3, z4, z5⟩, zl, zB⟩ := STL.out
                  clear zl zB
                  go_wp2_with fail
                  refine (T1.out _).mono ?_
                  rintro e w3x ⟨rfl, hb⟩
                  have ST3 := Lib.hid (KS.out _ _ STL.out hb)
                  clear hb
                  clear z0 z1 z2 z3 z4 z5
                  obtain ⟨⟨z0, z1, z2, z3, z4, z5⟩, zl, zB⟩ := ST3.out
                  clear zl zB
                  go_wp2_with fail
                  refine (T2.out _).mono ?_
                  rintro e w4x ⟨rfl, hb⟩
                  have ST4 := Lib.hid (KS.out _ _ ST3.out hb)
                  clear hb
                  clear z0 z1 z2 z3 z4 z5
                  obtain ⟨⟨z0, z1, z2, z3, z4, z5⟩, zl, zB⟩ := ST4.out
                  clear zl zB
                  go_wp2
                  go_ret
                  exact ⟨by rw [A.out]; rfl, ST4.out.2.2⟩
                · by_cases c2 : Y < X
                  · skip
                    have A : Hid (z = 1) := by unfold Hid; rw [RV.out, hd.out, SP.out, if_neg c1, if_pos c2]
                    clear SP
                    obtain ⟨⟨z0, z1, z2, z3, z4, z5⟩, zl, zB⟩ := STL.out
                    clear zl zB
                    go_wp2_with fail
                    refine (T1.out _).mono ?_
                    rintro e w3x ⟨rfl, hb⟩
                    have ST3 := Lib.hid (KS.out _ _ STL.out hb)
                    clear hb
                    clear z0 z1 z2 z3 z4 z5
                    obtain ⟨⟨z0, z1, z2, z3, z4, z5⟩, zl, zB⟩ := ST3.out
                    clear zl zB
                    go_wp2_with fail
                    refine (T2.out _).mono ?_
                    rintro e w4x ⟨rfl, hb⟩
                    have ST4 := Lib.hid (KS.out _ _ ST3.out hb)
                    clear hb
                    clear z0 z1 z2 z3 z4 z5
                    obtain ⟨⟨z0, z1, z2, z3, z4, z5⟩, zl, zB⟩ := ST4.out
                    clear zl zB
                    go_wp2
                    go_ret
                    exact ⟨by rw [A.out]; rfl, ST4.out.2.2⟩
                  · skip
                    have A : Hid (cmpP l m = cmpP (l.drop (k + 1)) (m.drop (k + 1))) := by unfold Hid; rw [hd.out, SP.out, if_neg c1, if_neg c2]
                    clear SP
                    obtain ⟨⟨z0, z1, z2, z3, z4, z5⟩, zl, zB⟩ := STL.out
                    clear zl zB
                    go_wp2_with fail
                    refine (T1.out _).mono ?_
                    rintro e w3x ⟨rfl, hb⟩
                    have ST3 := Lib.hid (KS.out _ _ STL.out hb)
                    clear hb
                    clear z0 z1 z2 z3 z4 z5
                    obtain ⟨⟨z0, z1, z2, z3, z4, z5⟩, zl, zB⟩ := ST3.out
                    clear zl zB
                    go_wp2_with fail
                    refine (T2.out _).mono ?_
                    rintro e w4x ⟨rfl, hb⟩
                    have ST4 := Lib.hid (KS.out _ _ ST3.out hb)
                    clear hb
                    clear z0 z1 z2 z3 z4 z5
                    obtain ⟨⟨z0, z1, z2, z3, z4, z5⟩, zl, zB⟩ := ST4.out
                    clear zl zB
                    go_wp2
                    go_roundw
                    case rel => exact ⟨k + 1, by go_num, by omega, A, ST4⟩
                    case measure => simp [intOf]; omega
              · have A : Hid (z = 0) := by unfold Hid; rw [RV.out, hd.out, END.out k (by have := SZ.out; omega) (by have := TZ.out; omega)]
                obtain ⟨⟨z0, z1, z2, z3, z4, z5⟩, zl, zB⟩ := STL.out
                clear zl zB
                go_wp2
                go_ret
                exact ⟨by rw [A.out]; rfl, STL.out.2.2⟩
end Go.Proofs.YtgjhpcmpgkfnkaaDoor
