/-
  DecimalMakes: walked.
-/
import Derived.Test.YtgjhpcmpgkfnkaaDoorA23
namespace Go.Proofs.YtgjhpcmpgkfnkaaDoor
open Go.RowKit Go.Shelf

set_option maxRecDepth 100000 in
set_option maxHeartbeats 16000000 in
theorem decimalMakes_any (b : Bool) (s : ByteArray) (x : Int) (c : Bool) (t : ByteArray) (y : Int) (n : Bool) (u : ByteArray) (z : Int) (z0 : -9223372036854775808 ≤ z) (z1 : z ≤ 9223372036854775807) (w : World) (T : Tabs w) :
    Calls Tryd.prog 3 #[.agg #[.bool b, .string s, .int .i64 x], .agg #[.bool c, .string t, .int .i64 y], .bool n, .string u, .int .i64 z] w fun e w' => e = .returned (.bool true) ∧ Below w.heap.size w w' := by
  have HT := Lib.hid T
  clear T
  obtain ⟨W1, W, hW1, sW1, hW, ⟨e0, e1, e2⟩, ⟨f0, f1, f2⟩, hbW, sz⟩ := boxD2 w b s x c t y
  have KS : Hid (∀ A Z : World, ((A.cell? ⟨w.heap.size, 0, none⟩ = some (.bool b) ∧ A.cell? ⟨w.heap.size, 1, none⟩ = some (.string s) ∧ A.cell? ⟨w.heap.size, 2, none⟩ = some (.int .i64 x) ∧ A.cell? ⟨w.heap.size + 1, 0, none⟩ = some (.bool c) ∧ A.cell? ⟨w.heap.size + 1, 1, none⟩ = some (.string t) ∧ A.cell? ⟨w.heap.size + 1, 2, none⟩ = some (.int .i64 y)) ∧ ((w.heap.size < A.heap.size ∧ w.heap.size + 1 < A.heap.size) ∧ Below w.heap.size w A)) → Below A.heap.size A Z → ((Z.cell? ⟨w.heap.size, 0, none⟩ = some (.bool b) ∧ Z.cell? ⟨w.heap.size, 1, none⟩ = some (.string s) ∧ Z.cell? ⟨w.heap.size, 2, none⟩ = some (.int .i64 x) ∧ Z.cell? ⟨w.heap.size + 1, 0, none⟩ = some (.bool c) ∧ Z.cell? ⟨w.heap.size + 1, 1, none⟩ = some (.string t) ∧ Z.cell? ⟨w.heap.size + 1, 2, none⟩ = some (.int .i64 y)) ∧ ((w.heap.size < Z.heap.size ∧ w.heap.size + 1 < Z.heap.size) ∧ Below w.heap.size w Z))) := by
    rintro A Z ⟨⟨h0, h1, h2, h3, h4, h5⟩, ⟨l0, l1⟩, hb⟩ hx
    have hz := hx.size
    refine ⟨⟨(hx.cell (p := ⟨w.heap.size, 0, none⟩) l0).trans h0, (hx.cell (p := ⟨w.heap.size, 1, none⟩) l0).trans h1, (hx.cell (p := ⟨w.heap.size, 2, none⟩) l0).trans h2, (hx.cell (p := ⟨w.heap.size + 1, 0, none⟩) l1).trans h3, (hx.cell (p := ⟨w.heap.size + 1, 1, none⟩) l1).trans h4, (hx.cell (p := ⟨w.heap.size + 1, 2, none⟩) l1).trans h5⟩, ⟨by omega, by omega⟩, via hb hx⟩
  have ST : Hid ((W.cell? ⟨w.heap.size, 0, none⟩ = some (.bool b) ∧ W.cell? ⟨w.heap.size, 1, none⟩ = some (.string s) ∧ W.cell? ⟨w.heap.size, 2, none⟩ = some (.int .i64 x) ∧ W.cell? ⟨w.heap.size + 1, 0, none⟩ = some (.bool c) ∧ W.cell? ⟨w.heap.size + 1, 1, none⟩ = some (.string t) ∧ W.cell? ⟨w.heap.size + 1, 2, none⟩ = some (.int .i64 y)) ∧ ((w.heap.size < W.heap.size ∧ w.heap.size + 1 < W.heap.size) ∧ Below w.heap.size w W)) := ⟨⟨e0, e1, e2, f0, f1, f2⟩, ⟨by omega, by omega⟩, hbW⟩
  clear hbW sz e0 e1 e2 f0 f1 f2
  by_cases h1 : (s.size : Int) ≤ 2000
  · by_cases h2 : (t.size : Int) ≤ 2000
    · by_cases h3 : (u.size : Int) ≤ 2000
      · have h1q : ¬ 2000 < (s.size : Int) := by omega
        have h2q : ¬ 2000 < (t.size : Int) := by omega
        have h3q : ¬ 2000 < (u.size : Int) := by omega
        have MA := Lib.hid (fun W => make_any n u z W (by omega) z0 (by omega))
        have MB := Lib.hid (fun W => rmake_any n u z W (by omega) z0 (by omega))
        obtain ⟨cb, cq, cy, er, hmp⟩ := makeV_parts n u.data.toList z
        rw [hmp] at MA MB
        have RA := Lib.hid (fun W => right_any b s x W (by omega))
        have RB := Lib.hid (fun W => rright_any b s x W (by omega))
        have PA := Lib.hid (fun W => point_any b s x W (by omega))
        have PB := Lib.hid (fun W => rpoint_any b s x W (by omega))
        have CA := Lib.hid (fun W => cmp_any b s x c t y W (by omega) (by omega))
        have CB := Lib.hid (fun W => rcmp_any b s x c t y W (by omega) (by omega))
        obtain ⟨r1, hr1⟩ : ∃ r, rightV s.data.toList x = r := ⟨_, rfl⟩
        obtain ⟨q1, hq1⟩ : ∃ r, pointV s.data.toList x = r := ⟨_, rfl⟩
        obtain ⟨m1, hm1⟩ : ∃ r, cmpV b s.data.toList x c t.data.toList y = r := ⟨_, rfl⟩
        rw [hr1] at RA RB; rw [hq1] at PA PB; rw [hm1] at CA CB
        clear hmp hr1 hq1 hm1 z0 z1
        obtain ⟨⟨z0, z1, z2, z3, z4, z5⟩, zl, zB⟩ := ST.out
        clear zl zB
        go_enter Tryd.func3, Tryd.ntmps3
        go_wp2_with fail
        refine (shown_any _ (HT.out.below ST.out.2.2)).mono ?_
        rintro e w1x ⟨rfl, hb⟩
        have ST1 := Lib.hid (KS.out _ _ ST.out hb)
        clear hb
        clear z0 z1 z2 z3 z4 z5
        obtain ⟨⟨z0, z1, z2, z3, z4, z5⟩, zl, zB⟩ := ST1.out
        clear zl zB
        go_wp2_with fail
        refine (MA.out _).mono ?_
        rintro e w2x ⟨rfl, hb⟩
        have ST2 := Lib.hid (KS.out _ _ ST1.out hb)
        clear hb
        clear z0 z1 z2 z3 z4 z5
        obtain ⟨⟨z0, z1, z2, z3, z4, z5⟩, zl, zB⟩ := ST2.out
        clear zl zB
        go_wp2_with fail
        generalize hal : w2x.alloc (.cells #[.bool cb, .string cq, .int .i64 cy] 23) = v3
        have hbn := al1 w2x (.cells #[.bool cb, .string cq, .int .i64 cy] 23)
        rw [hal] at hbn
        have nbx := BoxD.new w2x cb cq cy
        rw [hal] at nbx
        have nbz : w2x.heap.size < v3.heap.size := by rw [← hal]; simp
        have STn := KS.out _ _ ST2.out hbn
        clear hbn
        clear z0 z1 z2 z3 z4 z5
        obtain ⟨p3, hp⟩ : ∃ b, w2x.heap.size = b := ⟨_, rfl⟩
        rw [hp] at nbx nbz ⊢
        obtain ⟨⟨z0, z1, z2, z3, z4, z5⟩, ⟨l0, l1⟩, zB⟩ := STn
        have ST3 : Hid ((v3.cell? ⟨w.heap.size, 0, none⟩ = some (.bool b) ∧ v3.cell? ⟨w.heap.size, 1, none⟩ = some (.string s) ∧ v3.cell? ⟨w.heap.size, 2, none⟩ = some (.int .i64 x) ∧ v3.cell? ⟨w.heap.size + 1, 0, none⟩ = some (.bool c) ∧ v3.cell? ⟨w.heap.size + 1, 1, none⟩ = some (.string t) ∧ v3.cell? ⟨w.heap.size + 1, 2, none⟩ = some (.int .i64 y) ∧ v3.cell? ⟨p3, 0, none⟩ = some (.bool cb) ∧ v3.cell? ⟨p3, 1, none⟩ = some (.string cq) ∧ v3.cell? ⟨p3, 2, none⟩ = some (.int .i64 cy)) ∧ ((w.heap.size < v3.heap.size ∧ w.heap.size + 1 < v3.heap.size ∧ p3 < v3.heap.size) ∧ Below w.heap.size w v3)) := ⟨⟨z0, z1, z2, z3, z4, z5, nbx.b, nbx.s, nbx.x⟩, ⟨l0, l1, nbz⟩, zB⟩
        clear hal hp nbx nbz zB z0 z1 z2 z3 z4 z5 l0 l1
        have KS3 : Hid (∀ A Z : World, ((A.cell? ⟨w.heap.size, 0, none⟩ = some (.bool b) ∧ A.cell? ⟨w.heap.size, 1, none⟩ = some (.string s) ∧ A.cell? ⟨w.heap.size, 2, none⟩ = some (.int .i64 x) ∧ A.cell? ⟨w.heap.size + 1, 0, none⟩ = some (.bool c) ∧ A.cell? ⟨w.heap.size + 1, 1, none⟩ = some (.string t) ∧ A.cell? ⟨w.heap.size + 1, 2, none⟩ = some (.int .i64 y) ∧ A.cell? ⟨p3, 0, none⟩ = some (.bool cb) ∧ A.cell? ⟨p3, 1, none⟩ = some (.string cq) ∧ A.cell? ⟨p3, 2, none⟩ = some (.int .i64 cy)) ∧ ((w.heap.size < A.heap.size ∧ w.heap.size + 1 < A.heap.size ∧ p3 < A.heap.size) ∧ Below w.heap.size w A)) → Below A.heap.size A Z → ((Z.cell? ⟨w.heap.size, 0, none⟩ = some (.bool b) ∧ Z.cell? ⟨w.heap.size, 1, none⟩ = some (.string s) ∧ Z.cell? ⟨w.heap.size, 2, none⟩ = some (.int .i64 x) ∧ Z.cell? ⟨w.heap.size + 1, 0, none⟩ = some (.bool c) ∧ Z.cell? ⟨w.heap.size + 1, 1, none⟩ = some (.string t) ∧ Z.cell? ⟨w.heap.size + 1, 2, none⟩ = some (.int .i64 y) ∧ Z.cell? ⟨p3, 0, none⟩ = some (.bool cb) ∧ Z.cell? ⟨p3, 1, none⟩ = some (.string cq) ∧ Z.cell? ⟨p3, 2, none⟩ = some (.int .i64 cy)) ∧ ((w.heap.size < Z.heap.size ∧ w.heap.size + 1 < Z.heap.size ∧ p3 < Z.heap.size) ∧ Below w.heap.size w Z))) := by
          rintro A Z ⟨⟨h0, h1, h2, h3, h4, h5, h6, h7, h8⟩, ⟨l0, l1, l2⟩, hb⟩ hx
          have hz := hx.size
          refine ⟨⟨(hx.cell (p := ⟨w.heap.size, 0, none⟩) l0).trans h0, (hx.cell (p := ⟨w.heap.size, 1, none⟩) l0).trans h1, (hx.cell (p := ⟨w.heap.size, 2, none⟩) l0).trans h2, (hx.cell (p := ⟨w.heap.size + 1, 0, none⟩) l1).trans h3, (hx.cell (p := ⟨w.heap.size + 1, 1, none⟩) l1).trans h4, (hx.cell (p := ⟨w.heap.size + 1, 2, none⟩) l1).trans h5, (hx.cell (p := ⟨p3, 0, none⟩) l2).trans h6, (hx.cell (p := ⟨p3, 1, none⟩) l2).trans h7, (hx.cell (p := ⟨p3, 2, none⟩) l2).trans h8⟩, ⟨by omega, by omega, by omega⟩, via hb hx⟩
        obtain ⟨⟨z0, z1, z2, z3, z4, z5, z6, z7, z8⟩, zl, zB⟩ := ST3.out
        clear zl zB
        refine (MB.out _).mono ?_
        rintro e w4x ⟨rfl, hb⟩
        have ST4 := Lib.hid (KS3.out _ _ ST3.out hb)
        clear hb
        clear z0 z1 z2 z3 z4 z5 z6 z7 z8
        obtain ⟨⟨z0, z1, z2, z3, z4, z5, z6, z7, z8⟩, zl, zB⟩ := ST4.out
        clear zl zB
        go_upto_region 6 with fail
        generalize hal : w4x.alloc (.cells #[.bool cb, .string cq, .int .i64 cy] 23) = v5
        have hbn := al1 w4x (.cells #[.bool cb, .string cq, .int .i64 cy] 23)
        rw [hal] at hbn
        have nbx := BoxD.new w4x cb cq cy
        rw [hal] at nbx
        have nbz : w4x.heap.size < v5.heap.size := by rw [← hal]; simp
        have STn := KS3.out _ _ ST4.out hbn
        clear hbn
        clear z0 z1 z2 z3 z4 z5 z6 z7 z8
        obtain ⟨p5, hp⟩ : ∃ b, w4x.heap.size = b := ⟨_, rfl⟩
        rw [hp] at nbx nbz ⊢
        obtain ⟨⟨z0, z1, z2, z3, z4, z5, z6, z7, z8⟩, ⟨l0, l1, l2⟩, zB⟩ := STn
        have ST5 : Hid ((v5.cell? ⟨w.heap.size, 0, none⟩ = some (.bool b) ∧ v5.cell? ⟨w.heap.size, 1, none⟩ = some (.string s) ∧ v5.cell? ⟨w.heap.size, 2, none⟩ = some (.int .i64 x) ∧ v5.cell? ⟨w.heap.size + 1, 0, none⟩ = some (.bool c) ∧ v5.cell? ⟨w.heap.size + 1, 1, none⟩ = some (.string t) ∧ v5.cell? ⟨w.heap.size + 1, 2, none⟩ = some (.int .i64 y) ∧ v5.cell? ⟨p3, 0, none⟩ = some (.bool cb) ∧ v5.cell? ⟨p3, 1, none⟩ = some (.string cq) ∧ v5.cell? ⟨p3, 2, none⟩ = some (.int .i64 cy) ∧ v5.cell? ⟨p5, 0, none⟩ = some (.bool cb) ∧ v5.cell? ⟨p5, 1, none⟩ = some (.string cq) ∧ v5.cell? ⟨p5, 2, none⟩ = some (.int .i64 cy)) ∧ ((w.heap.size < v5.heap.size ∧ w.heap.size + 1 < v5.heap.size ∧ p3 < v5.heap.size ∧ p5 < v5.heap.size) ∧ Below w.heap.size w v5)) := ⟨⟨z0, z1, z2, z3, z4, z5, z6, z7, z8, nbx.b, nbx.s, nbx.x⟩, ⟨l0, l1, l2, nbz⟩, zB⟩
        clear hal hp nbx nbz zB z0 z1 z2 z3 z4 z5 z6 z7 z8 l0 l1 l2
        have KS5 : Hid (∀ A Z : World, ((A.cell? ⟨w.heap.size, 0, none⟩ = some (.bool b) ∧ A.cell? ⟨w.heap.size, 1, none⟩ = some (.string s) ∧ A.cell? ⟨w.heap.size, 2, none⟩ = some (.int .i64 x) ∧ A.cell? ⟨w.heap.size + 1, 0, none⟩ = some (.bool c) ∧ A.cell? ⟨w.heap.size + 1, 1, none⟩ = some (.string t) ∧ A.cell? ⟨w.heap.size + 1, 2, none⟩ = some (.int .i64 y) ∧ A.cell? ⟨p3, 0, none⟩ = some (.bool cb) ∧ A.cell? ⟨p3, 1, none⟩ = some (.string cq) ∧ A.cell? ⟨p3, 2, none⟩ = some (.int .i64 cy) ∧ A.cell? ⟨p5, 0, none⟩ = some (.bool cb) ∧ A.cell? ⟨p5, 1, none⟩ = some (.string cq) ∧ A.cell? ⟨p5, 2, none⟩ = some (.int .i64 cy)) ∧ ((w.heap.size < A.heap.size ∧ w.heap.size + 1 < A.heap.size ∧ p3 < A.heap.size ∧ p5 < A.heap.size) ∧ Below w.heap.size w A)) → Below A.heap.size A Z → ((Z.cell? ⟨w.heap.size, 0, none⟩ = some (.bool b) ∧ Z.cell? ⟨w.heap.size, 1, none⟩ = some (.string s) ∧ Z.cell? ⟨w.heap.size, 2, none⟩ = some (.int .i64 x) ∧ Z.cell? ⟨w.heap.size + 1, 0, none⟩ = some (.bool c) ∧ Z.cell? ⟨w.heap.size + 1, 1, none⟩ = some (.string t) ∧ Z.cell? ⟨w.heap.size + 1, 2, none⟩ = some (.int .i64 y) ∧ Z.cell? ⟨p3, 0, none⟩ = some (.bool cb) ∧ Z.cell? ⟨p3, 1, none⟩ = some (.string cq) ∧ Z.cell? ⟨p3, 2, none⟩ = some (.int .i64 cy) ∧ Z.cell? ⟨p5, 0, none⟩ = some (.bool cb) ∧ Z.cell? ⟨p5, 1, none⟩ = some (.string cq) ∧ Z.cell? ⟨p5, 2, none⟩ = some (.int .i64 cy)) ∧ ((w.heap.size < Z.heap.size ∧ w.heap.size + 1 < Z.heap.size ∧ p3 < Z.heap.size ∧ p5 < Z.heap.size) ∧ Below w.heap.size w Z))) := by
          rintro A Z ⟨⟨h0, h1, h2, h3, h4, h5, h6, h7, h8, h9, h10, h11⟩, ⟨l0, l1, l2, l3⟩, hb⟩ hx
          have hz := hx.size
          refine ⟨⟨(hx.cell (p := ⟨w.heap.size, 0, none⟩) l0).trans h0, (hx.cell (p := ⟨w.heap.size, 1, none⟩) l0).trans h1, (hx.cell (p := ⟨w.heap.size, 2, none⟩) l0).trans h2, (hx.cell (p := ⟨w.heap.size + 1, 0, none⟩) l1).trans h3, (hx.cell (p := ⟨w.heap.size + 1, 1, none⟩) l1).trans h4, (hx.cell (p := ⟨w.heap.size + 1, 2, none⟩) l1).trans h5, (hx.cell (p := ⟨p3, 0, none⟩) l2).trans h6, (hx.cell (p := ⟨p3, 1, none⟩) l2).trans h7, (hx.cell (p := ⟨p3, 2, none⟩) l2).trans h8, (hx.cell (p := ⟨p5, 0, none⟩) l3).trans h9, (hx.cell (p := ⟨p5, 1, none⟩) l3).trans h10, (hx.cell (p := ⟨p5, 2, none⟩) l3).trans h11⟩, ⟨by omega, by omega, by omega, by omega⟩, via hb hx⟩
        obtain ⟨⟨z0, z1, z2, z3, z4, z5, z6, z7, z8, z9, z10, z11⟩, zl, zB⟩ := ST5.out
        clear zl zB
        clear z0 z1 z2 z3 z4 z5 z6 z7 z8 z9 z10 z11
        go_wp2
        go_region_held3 (fun W => (W.cell? ⟨w.heap.size, 0, none⟩ = some (.bool b) ∧ W.cell? ⟨w.heap.size, 1, none⟩ = some (.string s) ∧ W.cell? ⟨w.heap.size, 2, none⟩ = some (.int .i64 x) ∧ W.cell? ⟨w.heap.size + 1, 0, none⟩ = some (.bool c) ∧ W.cell? ⟨w.heap.size + 1, 1, none⟩ = some (.string t) ∧ W.cell? ⟨w.heap.size + 1, 2, none⟩ = some (.int .i64 y) ∧ W.cell? ⟨p3, 0, none⟩ = some (.bool cb) ∧ W.cell? ⟨p3, 1, none⟩ = some (.string cq) ∧ W.cell? ⟨p3, 2, none⟩ = some (.int .i64 cy) ∧ W.cell? ⟨p5, 0, none⟩ = some (.bool cb) ∧ W.cell? ⟨p5, 1, none⟩ = some (.string cq) ∧ W.cell? ⟨p5, 2, none⟩ = some (.int .i64 cy)) ∧ ((w.heap.size < W.heap.size ∧ w.heap.size + 1 < W.heap.size ∧ p3 < W.heap.size ∧ p5 < W.heap.size) ∧ Below w.heap.size w W)) (first | exact ⟨ST5.out.1, ST5.out.2.1, ST5.out.2.2.drew⟩ | exact KS5.out _ _ (by assumption) (by assumption)) (first | (go_at_call 12; refine (RA.out _).mono ?_; rintro e wz ⟨rfl, hbz⟩) | (go_at_call 13; refine (RB.out _).mono ?_; rintro e wz ⟨rfl, hbz⟩) | (go_at_call 14; refine (PA.out _).mono ?_; rintro e wz ⟨rfl, hbz⟩) | (go_at_call 15; refine (PB.out _).mono ?_; rintro e wz ⟨rfl, hbz⟩) | (go_at_call 16; refine (CA.out _).mono ?_; rintro e wz ⟨rfl, hbz⟩) | (go_at_call 17; refine (CB.out _).mono ?_; rintro e wz ⟨rfl, hbz⟩))
        all_goals
          have ST6 : (wz.cell? ⟨w.heap.size, 0, none⟩ = some (.bool b) ∧ wz.cell? ⟨w.heap.size, 1, none⟩ = some (.string s) ∧ wz.cell? ⟨w.heap.size, 2, none⟩ = some (.int .i64 x) ∧ wz.cell? ⟨w.heap.size + 1, 0, none⟩ = some (.bool c) ∧ wz.cell? ⟨w.heap.size + 1, 1, none⟩ = some (.string t) ∧ wz.cell? ⟨w.heap.size + 1, 2, none⟩ = some (.int .i64 y) ∧ wz.cell? ⟨p3, 0, none⟩ = some (.bool cb) ∧ wz.cell? ⟨p3, 1, none⟩ = some (.string cq) ∧ wz.cell? ⟨p3, 2, none⟩ = some (.int .i64 cy) ∧ wz.cell? ⟨p5, 0, none⟩ = some (.bool cb) ∧ wz.cell? ⟨p5, 1, none⟩ = some (.string cq) ∧ wz.cell? ⟨p5, 2, none⟩ = some (.int .i64 cy)) ∧ ((w.heap.size < wz.heap.size ∧ w.heap.size + 1 < wz.heap.size ∧ p3 < wz.heap.size ∧ p5 < wz.heap.size) ∧ Below w.heap.size w wz) := by assumption
          have ST6 := Lib.hid ST6
          try go_wp2
          go_ret
          exact ⟨rfl, ST6.out.2.2⟩
      · have h1q : ¬ 2000 < (s.size : Int) := by omega
        have h2q : ¬ 2000 < (t.size : Int) := by omega
        have h3q : 2000 < (u.size : Int) := by omega
        obtain ⟨⟨z0, z1, z2, z3, z4, z5⟩, zl, zB⟩ := ST.out
        clear zl zB
        go_enter Tryd.func3, Tryd.ntmps3
        go_wp2_with fail
        refine (shown_any _ (HT.out.below ST.out.2.2)).mono ?_
        rintro e w1x ⟨rfl, hb⟩
        have ST1 := Lib.hid (KS.out _ _ ST.out hb)
        clear hb
        clear z0 z1 z2 z3 z4 z5
        obtain ⟨⟨z0, z1, z2, z3, z4, z5⟩, zl, zB⟩ := ST1.out
        clear zl zB
        go_wp2
        go_ret
        exact ⟨rfl, ST1.out.2.2⟩
    · have h1q : ¬ 2000 < (s.size : Int) := by omega
      have h2q : 2000 < (t.size : Int) := by omega
      obtain ⟨⟨z0, z1, z2, z3, z4, z5⟩, zl, zB⟩ := ST.out
      clear zl zB
      go_enter Tryd.func3, Tryd.ntmps3
      go_wp2_with fail
      refine (shown_any _ (HT.out.below ST.out.2.2)).mono ?_
      rintro e w1x ⟨rfl, hb⟩
      have ST1 := Lib.hid (KS.out _ _ ST.out hb)
      clear hb
      clear z0 z1 z2 z3 z4 z5
      obtain ⟨⟨z0, z1, z2, z3, z4, z5⟩, zl, zB⟩ := ST1.out
      clear zl zB
      go_wp2
      go_ret
      exact ⟨rfl, ST1.out.2.2⟩
  · have h1q : 2000 < (s.size : Int) := by omega
    obtain ⟨⟨z0, z1, z2, z3, z4, z5⟩, zl, zB⟩ := ST.out
    clear zl zB
    go_enter Tryd.func3, Tryd.ntmps3
    go_wp2_with fail
    refine (shown_any _ (HT.out.below ST.out.2.2)).mono ?_
    rintro e w1x ⟨rfl, hb⟩
    have ST1 := Lib.hid (KS.out _ _ ST.out hb)
    clear hb
    clear z0 z1 z2 z3 z4 z5
    obtain ⟨⟨z0, z1, z2, z3, z4, z5⟩, zl, zB⟩ := ST1.out
    clear zl zB
    go_wp2
    go_ret
    exact ⟨rfl, ST1.out.2.2⟩
end Go.Proofs.YtgjhpcmpgkfnkaaDoor
