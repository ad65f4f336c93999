/-
  DecimalRounds: walked.
-/
import Derived.Test.YtgjhpcmpgkfnkaaDoorA28
import Derived.Test.YtgjhpcmpgkfnkaaDoorA23
namespace Go.Proofs.YtgjhpcmpgkfnkaaDoor
open Go.RowKit Go.Shelf

set_option maxRecDepth 100000 in
set_option maxHeartbeats 16000000 in
theorem decimalRounds_any (b : Bool) (s : ByteArray) (x n way : Int) (_n0 : -9223372036854775808 ≤ n) (_n1 : n ≤ 9223372036854775807) (_w0 : -9223372036854775808 ≤ way) (_w1 : way ≤ 9223372036854775807) (w : World) (T : Tabs w) :
    Calls Tryd.prog 4 #[.agg #[.bool b, .string s, .int .i64 x], .int .i64 n, .int .i64 way] w fun e w' => e = .returned (.bool true) ∧ Below w.heap.size w w' := by
  have HT := Lib.hid T
  clear T _n0 _n1 _w0 _w1
  obtain ⟨W, hW, ⟨e0, e1, e2⟩, hbW, sz⟩ := boxD1 w b s x
  have KS : Hid (∀ A Z : World, ((A.cell? ⟨w.heap.size, 0, none⟩ = some (.bool b) ∧ A.cell? ⟨w.heap.size, 1, none⟩ = some (.string s) ∧ A.cell? ⟨w.heap.size, 2, none⟩ = some (.int .i64 x)) ∧ ((w.heap.size < A.heap.size) ∧ Below w.heap.size w A)) → Below A.heap.size A Z → ((Z.cell? ⟨w.heap.size, 0, none⟩ = some (.bool b) ∧ Z.cell? ⟨w.heap.size, 1, none⟩ = some (.string s) ∧ Z.cell? ⟨w.heap.size, 2, none⟩ = some (.int .i64 x)) ∧ ((w.heap.size < Z.heap.size) ∧ Below w.heap.size w Z))) := by
    rintro A Z ⟨⟨h0, h1, h2⟩, l0, hb⟩ hx
    have hz := hx.size
    refine ⟨⟨(hx.cell (p := ⟨w.heap.size, 0, none⟩) l0).trans h0, (hx.cell (p := ⟨w.heap.size, 1, none⟩) l0).trans h1, (hx.cell (p := ⟨w.heap.size, 2, none⟩) l0).trans h2⟩, by omega, via hb hx⟩
  have ST : Hid ((W.cell? ⟨w.heap.size, 0, none⟩ = some (.bool b) ∧ W.cell? ⟨w.heap.size, 1, none⟩ = some (.string s) ∧ W.cell? ⟨w.heap.size, 2, none⟩ = some (.int .i64 x)) ∧ ((w.heap.size < W.heap.size) ∧ Below w.heap.size w W)) := ⟨⟨e0, e1, e2⟩, by omega, hbW⟩
  clear hbW sz e0 e1 e2
  by_cases h1 : (s.size : Int) ≤ 2000
  · have h1q : ¬ 2000 < (s.size : Int) := by omega
    have SA := Lib.hid (fun W => sig_any b s x n way W (by omega))
    have SB := Lib.hid (fun W => rsig_any b s x n way W (by omega))
    have PA := Lib.hid (fun W => place_any b s x n way W (by omega))
    have PB := Lib.hid (fun W => rplace_any b s x n way W (by omega))
    have sp : ∃ (c : Bool) (q : ByteArray) (y e : Int), sigV b s.data.toList x n way = (.agg #[.bool c, .string q, .int .i64 y], e) := by
      unfold sigV; split
      · exact rndV_parts _ _ _ _ _
      · exact ⟨_, _, _, _, rfl⟩
    have pp : ∃ (c : Bool) (q : ByteArray) (y e : Int), placeV b s.data.toList x n way = (.agg #[.bool c, .string q, .int .i64 y], e) := by
      unfold placeV; split
      · exact rndV_parts _ _ _ _ _
      · exact ⟨_, _, _, _, rfl⟩
    obtain ⟨c1, q1, y1, e1, hp1⟩ := sp
    obtain ⟨c2, q2, y2, e2, hp2⟩ := pp
    rw [hp1] at SA SB; rw [hp2] at PA PB
    clear hp1 hp2
    obtain ⟨⟨z0, z1, z2⟩, zl, zB⟩ := ST.out
    clear zl zB
    go_enter Tryd.func4, Tryd.ntmps4
    go_wp2_with fail
    refine (shown_any _ (HT.out.below ST.out.2.2)).mono ?_
    rintro e w1x ⟨rfl, hb⟩
    have ST1 := Lib.hid (KS.out _ _ ST.out hb)
    clear hb
    clear z0 z1 z2
    obtain ⟨⟨z0, z1, z2⟩, zl, zB⟩ := ST1.out
    clear zl zB
    go_wp2_with fail
    refine (SA.out _).mono ?_
    rintro e w2x ⟨rfl, hb⟩
    have ST2 := Lib.hid (KS.out _ _ ST1.out hb)
    clear hb
    clear z0 z1 z2
    obtain ⟨⟨z0, z1, z2⟩, zl, zB⟩ := ST2.out
    clear zl zB
    obtain ⟨v3, hal⟩ : ∃ X, w2x.alloc (.cells #[.bool c1, .string q1, .int .i64 y1] 23) = X := ⟨_, rfl⟩
    have hbn := al1 w2x (.cells #[.bool c1, .string q1, .int .i64 y1] 23)
    rw [hal] at hbn
    have nbx := BoxD.new w2x c1 q1 y1
    rw [hal] at nbx
    have nbz : w2x.heap.size < v3.heap.size := by rw [← hal]; simp
    have STn := KS.out _ _ ST2.out hbn
    clear hbn
    clear z0 z1 z2
    obtain ⟨p3, hp⟩ : ∃ b, w2x.heap.size = b := ⟨_, rfl⟩
    rw [hp] at nbx nbz
    obtain ⟨⟨z0, z1, z2⟩, l0, zB⟩ := STn
    have ST3 : Hid ((v3.cell? ⟨w.heap.size, 0, none⟩ = some (.bool b) ∧ v3.cell? ⟨w.heap.size, 1, none⟩ = some (.string s) ∧ v3.cell? ⟨w.heap.size, 2, none⟩ = some (.int .i64 x) ∧ v3.cell? ⟨p3, 0, none⟩ = some (.bool c1) ∧ v3.cell? ⟨p3, 1, none⟩ = some (.string q1) ∧ v3.cell? ⟨p3, 2, none⟩ = some (.int .i64 y1)) ∧ ((w.heap.size < v3.heap.size ∧ p3 < v3.heap.size) ∧ Below w.heap.size w v3)) := ⟨⟨z0, z1, z2, nbx.b, nbx.s, nbx.x⟩, ⟨l0, nbz⟩, zB⟩
    clear nbx nbz zB z0 z1 z2 l0
    have KS3 : Hid (∀ A Z : World, ((A.cell? ⟨w.heap.size, 0, none⟩ = some (.bool b) ∧ A.cell? ⟨w.heap.size, 1, none⟩ = some (.string s) ∧ A.cell? ⟨w.heap.size, 2, none⟩ = some (.int .i64 x) ∧ A.cell? ⟨p3, 0, none⟩ = some (.bool c1) ∧ A.cell? ⟨p3, 1, none⟩ = some (.string q1) ∧ A.cell? ⟨p3, 2, none⟩ = some (.int .i64 y1)) ∧ ((w.heap.size < A.heap.size ∧ p3 < A.heap.size) ∧ Below w.heap.size w A)) → Below A.heap.size A Z → ((Z.cell? ⟨w.heap.size, 0, none⟩ = some (.bool b) ∧ Z.cell? ⟨w.heap.size, 1, none⟩ = some (.string s) ∧ Z.cell? ⟨w.heap.size, 2, none⟩ = some (.int .i64 x) ∧ Z.cell? ⟨p3, 0, none⟩ = some (.bool c1) ∧ Z.cell? ⟨p3, 1, none⟩ = some (.string q1) ∧ Z.cell? ⟨p3, 2, none⟩ = some (.int .i64 y1)) ∧ ((w.heap.size < Z.heap.size ∧ p3 < Z.heap.size) ∧ Below w.heap.size w Z))) := by
      rintro A Z ⟨⟨h0, h1, h2, h3, h4, h5⟩, ⟨l0, l1⟩, hb⟩ hx
      have hz := hx.size
      refine ⟨⟨(hx.cell (p := ⟨w.heap.size, 0, none⟩) l0).trans h0, (hx.cell (p := ⟨w.heap.size, 1, none⟩) l0).trans h1, (hx.cell (p := ⟨w.heap.size, 2, none⟩) l0).trans h2, (hx.cell (p := ⟨p3, 0, none⟩) l1).trans h3, (hx.cell (p := ⟨p3, 1, none⟩) l1).trans h4, (hx.cell (p := ⟨p3, 2, none⟩) l1).trans h5⟩, ⟨by omega, by omega⟩, via hb hx⟩
    obtain ⟨⟨z0, z1, z2, z3, z4, z5⟩, zl, zB⟩ := ST3.out
    clear zl zB
    go_wp2_with fail
    refine (SB.out _).mono ?_
    rintro e w4x ⟨rfl, hb⟩
    have ST4 := Lib.hid (KS3.out _ _ ST3.out hb)
    clear hb
    clear z0 z1 z2 z3 z4 z5
    obtain ⟨⟨z0, z1, z2, z3, z4, z5⟩, zl, zB⟩ := ST4.out
    clear zl zB
    clear hal hp
    obtain ⟨v5, hal⟩ : ∃ X, w4x.alloc (.cells #[.bool c1, .string q1, .int .i64 y1] 23) = X := ⟨_, rfl⟩
    have hbn := al1 w4x (.cells #[.bool c1, .string q1, .int .i64 y1] 23)
    rw [hal] at hbn
    have nbx := BoxD.new w4x c1 q1 y1
    rw [hal] at nbx
    have nbz : w4x.heap.size < v5.heap.size := by rw [← hal]; simp
    have STn := KS3.out _ _ ST4.out hbn
    clear hbn
    clear z0 z1 z2 z3 z4 z5
    obtain ⟨p5, hp⟩ : ∃ b, w4x.heap.size = b := ⟨_, rfl⟩
    rw [hp] at nbx nbz
    obtain ⟨⟨z0, z1, z2, z3, z4, z5⟩, ⟨l0, l1⟩, zB⟩ := STn
    have ST5 : Hid ((v5.cell? ⟨w.heap.size, 0, none⟩ = some (.bool b) ∧ v5.cell? ⟨w.heap.size, 1, none⟩ = some (.string s) ∧ v5.cell? ⟨w.heap.size, 2, none⟩ = some (.int .i64 x) ∧ v5.cell? ⟨p3, 0, none⟩ = some (.bool c1) ∧ v5.cell? ⟨p3, 1, none⟩ = some (.string q1) ∧ v5.cell? ⟨p3, 2, none⟩ = some (.int .i64 y1) ∧ v5.cell? ⟨p5, 0, none⟩ = some (.bool c1) ∧ v5.cell? ⟨p5, 1, none⟩ = some (.string q1) ∧ v5.cell? ⟨p5, 2, none⟩ = some (.int .i64 y1)) ∧ ((w.heap.size < v5.heap.size ∧ p3 < v5.heap.size ∧ p5 < v5.heap.size) ∧ Below w.heap.size w v5)) := ⟨⟨z0, z1, z2, z3, z4, z5, nbx.b, nbx.s, nbx.x⟩, ⟨l0, l1, nbz⟩, zB⟩
    clear nbx nbz zB z0 z1 z2 z3 z4 z5 l0 l1
    have KS5 : Hid (∀ A Z : World, ((A.cell? ⟨w.heap.size, 0, none⟩ = some (.bool b) ∧ A.cell? ⟨w.heap.size, 1, none⟩ = some (.string s) ∧ A.cell? ⟨w.heap.size, 2, none⟩ = some (.int .i64 x) ∧ A.cell? ⟨p3, 0, none⟩ = some (.bool c1) ∧ A.cell? ⟨p3, 1, none⟩ = some (.string q1) ∧ A.cell? ⟨p3, 2, none⟩ = some (.int .i64 y1) ∧ A.cell? ⟨p5, 0, none⟩ = some (.bool c1) ∧ A.cell? ⟨p5, 1, none⟩ = some (.string q1) ∧ A.cell? ⟨p5, 2, none⟩ = some (.int .i64 y1)) ∧ ((w.heap.size < A.heap.size ∧ p3 < A.heap.size ∧ p5 < A.heap.size) ∧ Below w.heap.size w A)) → Below A.heap.size A Z → ((Z.cell? ⟨w.heap.size, 0, none⟩ = some (.bool b) ∧ Z.cell? ⟨w.heap.size, 1, none⟩ = some (.string s) ∧ Z.cell? ⟨w.heap.size, 2, none⟩ = some (.int .i64 x) ∧ Z.cell? ⟨p3, 0, none⟩ = some (.bool c1) ∧ Z.cell? ⟨p3, 1, none⟩ = some (.string q1) ∧ Z.cell? ⟨p3, 2, none⟩ = some (.int .i64 y1) ∧ Z.cell? ⟨p5, 0, none⟩ = some (.bool c1) ∧ Z.cell? ⟨p5, 1, none⟩ = some (.string q1) ∧ Z.cell? ⟨p5, 2, none⟩ = some (.int .i64 y1)) ∧ ((w.heap.size < Z.heap.size ∧ p3 < Z.heap.size ∧ p5 < Z.heap.size) ∧ Below w.heap.size w Z))) := by
      rintro A Z ⟨⟨h0, h1, h2, h3, h4, h5, h6, h7, h8⟩, ⟨l0, l1, l2⟩, hb⟩ hx
      have hz := hx.size
      refine ⟨⟨(hx.cell (p := ⟨w.heap.size, 0, none⟩) l0).trans h0, (hx.cell (p := ⟨w.heap.size, 1, none⟩) l0).trans h1, (hx.cell (p := ⟨w.heap.size, 2, none⟩) l0).trans h2, (hx.cell (p := ⟨p3, 0, none⟩) l1).trans h3, (hx.cell (p := ⟨p3, 1, none⟩) l1).trans h4, (hx.cell (p := ⟨p3, 2, none⟩) l1).trans h5, (hx.cell (p := ⟨p5, 0, none⟩) l2).trans h6, (hx.cell (p := ⟨p5, 1, none⟩) l2).trans h7, (hx.cell (p := ⟨p5, 2, none⟩) l2).trans h8⟩, ⟨by omega, by omega, by omega⟩, via hb hx⟩
    obtain ⟨⟨z0, z1, z2, z3, z4, z5, z6, z7, z8⟩, zl, zB⟩ := ST5.out
    clear zl zB
    go_wp2_with fail
    refine (PA.out _).mono ?_
    rintro e w6x ⟨rfl, hb⟩
    have ST6 := Lib.hid (KS5.out _ _ ST5.out hb)
    clear hb
    clear z0 z1 z2 z3 z4 z5 z6 z7 z8
    obtain ⟨⟨z0, z1, z2, z3, z4, z5, z6, z7, z8⟩, zl, zB⟩ := ST6.out
    clear zl zB
    clear hal hp
    obtain ⟨v7, hal⟩ : ∃ X, w6x.alloc (.cells #[.bool c2, .string q2, .int .i64 y2] 23) = X := ⟨_, rfl⟩
    have hbn := al1 w6x (.cells #[.bool c2, .string q2, .int .i64 y2] 23)
    rw [hal] at hbn
    have nbx := BoxD.new w6x c2 q2 y2
    rw [hal] at nbx
    have nbz : w6x.heap.size < v7.heap.size := by rw [← hal]; simp
    have STn := KS5.out _ _ ST6.out hbn
    clear hbn
    clear z0 z1 z2 z3 z4 z5 z6 z7 z8
    obtain ⟨p7, hp⟩ : ∃ b, w6x.heap.size = b := ⟨_, rfl⟩
    rw [hp] at nbx nbz
    obtain ⟨⟨z0, z1, z2, z3, z4, z5, z6, z7, z8⟩, ⟨l0, l1, l2⟩, zB⟩ := STn
    have ST7 : Hid ((v7.cell? ⟨w.heap.size, 0, none⟩ = some (.bool b) ∧ v7.cell? ⟨w.heap.size, 1, none⟩ = some (.string s) ∧ v7.cell? ⟨w.heap.size, 2, none⟩ = some (.int .i64 x) ∧ v7.cell? ⟨p3, 0, none⟩ = some (.bool c1) ∧ v7.cell? ⟨p3, 1, none⟩ = some (.string q1) ∧ v7.cell? ⟨p3, 2, none⟩ = some (.int .i64 y1) ∧ v7.cell? ⟨p5, 0, none⟩ = some (.bool c1) ∧ v7.cell? ⟨p5, 1, none⟩ = some (.string q1) ∧ v7.cell? ⟨p5, 2, none⟩ = some (.int .i64 y1) ∧ v7.cell? ⟨p7, 0, none⟩ = some (.bool c2) ∧ v7.cell? ⟨p7, 1, none⟩ = some (.string q2) ∧ v7.cell? ⟨p7, 2, none⟩ = some (.int .i64 y2)) ∧ ((w.heap.size < v7.heap.size ∧ p3 < v7.heap.size ∧ p5 < v7.heap.size ∧ p7 < v7.heap.size) ∧ Below w.heap.size w v7)) := ⟨⟨z0, z1, z2, z3, z4, z5, z6, z7, z8, nbx.b, nbx.s, nbx.x⟩, ⟨l0, l1, l2, nbz⟩, zB⟩
    clear nbx nbz zB z0 z1 z2 z3 z4 z5 z6 z7 z8 l0 l1 l2
    have KS7 : Hid (∀ A Z : World, ((A.cell? ⟨w.heap.size, 0, none⟩ = some (.bool b) ∧ A.cell? ⟨w.heap.size, 1, none⟩ = some (.string s) ∧ A.cell? ⟨w.heap.size, 2, none⟩ = some (.int .i64 x) ∧ A.cell? ⟨p3, 0, none⟩ = some (.bool c1) ∧ A.cell? ⟨p3, 1, none⟩ = some (.string q1) ∧ A.cell? ⟨p3, 2, none⟩ = some (.int .i64 y1) ∧ A.cell? ⟨p5, 0, none⟩ = some (.bool c1) ∧ A.cell? ⟨p5, 1, none⟩ = some (.string q1) ∧ A.cell? ⟨p5, 2, none⟩ = some (.int .i64 y1) ∧ A.cell? ⟨p7, 0, none⟩ = some (.bool c2) ∧ A.cell? ⟨p7, 1, none⟩ = some (.string q2) ∧ A.cell? ⟨p7, 2, none⟩ = some (.int .i64 y2)) ∧ ((w.heap.size < A.heap.size ∧ p3 < A.heap.size ∧ p5 < A.heap.size ∧ p7 < A.heap.size) ∧ Below w.heap.size w A)) → Below A.heap.size A Z → ((Z.cell? ⟨w.heap.size, 0, none⟩ = some (.bool b) ∧ Z.cell? ⟨w.heap.size, 1, none⟩ = some (.string s) ∧ Z.cell? ⟨w.heap.size, 2, none⟩ = some (.int .i64 x) ∧ Z.cell? ⟨p3, 0, none⟩ = some (.bool c1) ∧ Z.cell? ⟨p3, 1, none⟩ = some (.string q1) ∧ Z.cell? ⟨p3, 2, none⟩ = some (.int .i64 y1) ∧ Z.cell? ⟨p5, 0, none⟩ = some (.bool c1) ∧ Z.cell? ⟨p5, 1, none⟩ = some (.string q1) ∧ Z.cell? ⟨p5, 2, none⟩ = some (.int .i64 y1) ∧ Z.cell? ⟨p7, 0, none⟩ = some (.bool c2) ∧ Z.cell? ⟨p7, 1, none⟩ = some (.string q2) ∧ Z.cell? ⟨p7, 2, none⟩ = some (.int .i64 y2)) ∧ ((w.heap.size < Z.heap.size ∧ p3 < Z.heap.size ∧ p5 < Z.heap.size ∧ p7 < Z.heap.size) ∧ Below w.heap.size w Z))) := by
      rintro A Z ⟨⟨h0, h1, h2, h3, h4, h5, h6, h7, h8, h9, h10, h11⟩, ⟨l0, l1, l2, l3⟩, hb⟩ hx
      have hz := hx.size
      refine ⟨⟨(hx.cell (p := ⟨w.heap.size, 0, none⟩) l0).trans h0, (hx.cell (p := ⟨w.heap.size, 1, none⟩) l0).trans h1, (hx.cell (p := ⟨w.heap.size, 2, none⟩) l0).trans h2, (hx.cell (p := ⟨p3, 0, none⟩) l1).trans h3, (hx.cell (p := ⟨p3, 1, none⟩) l1).trans h4, (hx.cell (p := ⟨p3, 2, none⟩) l1).trans h5, (hx.cell (p := ⟨p5, 0, none⟩) l2).trans h6, (hx.cell (p := ⟨p5, 1, none⟩) l2).trans h7, (hx.cell (p := ⟨p5, 2, none⟩) l2).trans h8, (hx.cell (p := ⟨p7, 0, none⟩) l3).trans h9, (hx.cell (p := ⟨p7, 1, none⟩) l3).trans h10, (hx.cell (p := ⟨p7, 2, none⟩) l3).trans h11⟩, ⟨by omega, by omega, by omega, by omega⟩, via hb hx⟩
    obtain ⟨⟨z0, z1, z2, z3, z4, z5, z6, z7, z8, z9, z10, z11⟩, zl, zB⟩ := ST7.out
    clear zl zB
    go_wp2_with fail
    refine (PB.out _).mono ?_
    rintro e w8x ⟨rfl, hb⟩
    have ST8 := Lib.hid (KS7.out _ _ ST7.out hb)
    clear hb
    clear z0 z1 z2 z3 z4 z5 z6 z7 z8 z9 z10 z11
    obtain ⟨⟨z0, z1, z2, z3, z4, z5, z6, z7, z8, z9, z10, z11⟩, zl, zB⟩ := ST8.out
    clear zl zB
    clear hal hp
    obtain ⟨v9, hal⟩ : ∃ X, w8x.alloc (.cells #[.bool c2, .string q2, .int .i64 y2] 23) = X := ⟨_, rfl⟩
    have hbn := al1 w8x (.cells #[.bool c2, .string q2, .int .i64 y2] 23)
    rw [hal] at hbn
    have nbx := BoxD.new w8x c2 q2 y2
    rw [hal] at nbx
    have nbz : w8x.heap.size < v9.heap.size := by rw [← hal]; simp
    have STn := KS7.out _ _ ST8.out hbn
    clear hbn
    clear z0 z1 z2 z3 z4 z5 z6 z7 z8 z9 z10 z11
    obtain ⟨p9, hp⟩ : ∃ b, w8x.heap.size = b := ⟨_, rfl⟩
    rw [hp] at nbx nbz
    obtain ⟨⟨z0, z1, z2, z3, z4, z5, z6, z7, z8, z9, z10, z11⟩, ⟨l0, l1, l2, l3⟩, zB⟩ := STn
    have ST9 : Hid ((v9.cell? ⟨w.heap.size, 0, none⟩ = some (.bool b) ∧ v9.cell? ⟨w.heap.size, 1, none⟩ = some (.string s) ∧ v9.cell? ⟨w.heap.size, 2, none⟩ = some (.int .i64 x) ∧ v9.cell? ⟨p3, 0, none⟩ = some (.bool c1) ∧ v9.cell? ⟨p3, 1, none⟩ = some (.string q1) ∧ v9.cell? ⟨p3, 2, none⟩ = some (.int .i64 y1) ∧ v9.cell? ⟨p5, 0, none⟩ = some (.bool c1) ∧ v9.cell? ⟨p5, 1, none⟩ = some (.string q1) ∧ v9.cell? ⟨p5, 2, none⟩ = some (.int .i64 y1) ∧ v9.cell? ⟨p7, 0, none⟩ = some (.bool c2) ∧ v9.cell? ⟨p7, 1, none⟩ = some (.string q2) ∧ v9.cell? ⟨p7, 2, none⟩ = some (.int .i64 y2) ∧ v9.cell? ⟨p9, 0, none⟩ = some (.bool c2) ∧ v9.cell? ⟨p9, 1, none⟩ = some (.string q2) ∧ v9.cell? ⟨p9, 2, none⟩ = some (.int .i64 y2)) ∧ ((w.heap.size < v9.heap.size ∧ p3 < v9.heap.size ∧ p5 < v9.heap.size ∧ p7 < v9.heap.size ∧ p9 < v9.heap.size) ∧ Below w.heap.size w v9)) := ⟨⟨z0, z1, z2, z3, z4, z5, z6, z7, z8, z9, z10, z11, nbx.b, nbx.s, nbx.x⟩, ⟨l0, l1, l2, l3, nbz⟩, zB⟩
    clear nbx nbz zB z0 z1 z2 z3 z4 z5 z6 z7 z8 z9 z10 z11 l0 l1 l2 l3
    have KS9 : Hid (∀ A Z : World, ((A.cell? ⟨w.heap.size, 0, none⟩ = some (.bool b) ∧ A.cell? ⟨w.heap.size, 1, none⟩ = some (.string s) ∧ A.cell? ⟨w.heap.size, 2, none⟩ = some (.int .i64 x) ∧ A.cell? ⟨p3, 0, none⟩ = some (.bool c1) ∧ A.cell? ⟨p3, 1, none⟩ = some (.string q1) ∧ A.cell? ⟨p3, 2, none⟩ = some (.int .i64 y1) ∧ A.cell? ⟨p5, 0, none⟩ = some (.bool c1) ∧ A.cell? ⟨p5, 1, none⟩ = some (.string q1) ∧ A.cell? ⟨p5, 2, none⟩ = some (.int .i64 y1) ∧ A.cell? ⟨p7, 0, none⟩ = some (.bool c2) ∧ A.cell? ⟨p7, 1, none⟩ = some (.string q2) ∧ A.cell? ⟨p7, 2, none⟩ = some (.int .i64 y2) ∧ A.cell? ⟨p9, 0, none⟩ = some (.bool c2) ∧ A.cell? ⟨p9, 1, none⟩ = some (.string q2) ∧ A.cell? ⟨p9, 2, none⟩ = some (.int .i64 y2)) ∧ ((w.heap.size < A.heap.size ∧ p3 < A.heap.size ∧ p5 < A.heap.size ∧ p7 < A.heap.size ∧ p9 < A.heap.size) ∧ Below w.heap.size w A)) → Below A.heap.size A Z → ((Z.cell? ⟨w.heap.size, 0, none⟩ = some (.bool b) ∧ Z.cell? ⟨w.heap.size, 1, none⟩ = some (.string s) ∧ Z.cell? ⟨w.heap.size, 2, none⟩ = some (.int .i64 x) ∧ Z.cell? ⟨p3, 0, none⟩ = some (.bool c1) ∧ Z.cell? ⟨p3, 1, none⟩ = some (.string q1) ∧ Z.cell? ⟨p3, 2, none⟩ = some (.int .i64 y1) ∧ Z.cell? ⟨p5, 0, none⟩ = some (.bool c1) ∧ Z.cell? ⟨p5, 1, none⟩ = some (.string q1) ∧ Z.cell? ⟨p5, 2, none⟩ = some (.int .i64 y1) ∧ Z.cell? ⟨p7, 0, none⟩ = some (.bool c2) ∧ Z.cell? ⟨p7, 1, none⟩ = some (.string q2) ∧ Z.cell? ⟨p7, 2, none⟩ = some (.int .i64 y2) ∧ Z.cell? ⟨p9, 0, none⟩ = some (.bool c2) ∧ Z.cell? ⟨p9, 1, none⟩ = some (.string q2) ∧ Z.cell? ⟨p9, 2, none⟩ = some (.int .i64 y2)) ∧ ((w.heap.size < Z.heap.size ∧ p3 < Z.heap.size ∧ p5 < Z.heap.size ∧ p7 < Z.heap.size ∧ p9 < Z.heap.size) ∧ Below w.heap.size w Z))) := by
      rintro A Z ⟨⟨h0, h1, h2, h3, h4, h5, h6, h7, h8, h9, h10, h11, h12, h13, h14⟩, ⟨l0, l1, l2, l3, l4⟩, hb⟩ hx
      have hz := hx.size
      refine ⟨⟨(hx.cell (p := ⟨w.heap.size, 0, none⟩) l0).trans h0, (hx.cell (p := ⟨w.heap.size, 1, none⟩) l0).trans h1, (hx.cell (p := ⟨w.heap.size, 2, none⟩) l0).trans h2, (hx.cell (p := ⟨p3, 0, none⟩) l1).trans h3, (hx.cell (p := ⟨p3, 1, none⟩) l1).trans h4, (hx.cell (p := ⟨p3, 2, none⟩) l1).trans h5, (hx.cell (p := ⟨p5, 0, none⟩) l2).trans h6, (hx.cell (p := ⟨p5, 1, none⟩) l2).trans h7, (hx.cell (p := ⟨p5, 2, none⟩) l2).trans h8, (hx.cell (p := ⟨p7, 0, none⟩) l3).trans h9, (hx.cell (p := ⟨p7, 1, none⟩) l3).trans h10, (hx.cell (p := ⟨p7, 2, none⟩) l3).trans h11, (hx.cell (p := ⟨p9, 0, none⟩) l4).trans h12, (hx.cell (p := ⟨p9, 1, none⟩) l4).trans h13, (hx.cell (p := ⟨p9, 2, none⟩) l4).trans h14⟩, ⟨by omega, by omega, by omega, by omega, by omega⟩, via hb hx⟩
    obtain ⟨⟨z0, z1, z2, z3, z4, z5, z6, z7, z8, z9, z10, z11, z12, z13, z14⟩, zl, zB⟩ := ST9.out
    clear zl zB
    go_wp2
    go_ret
    exact ⟨rfl, ST9.out.2.2⟩
  · have h1q : 2000 < (s.size : Int) := by omega
    obtain ⟨⟨z0, z1, z2⟩, zl, zB⟩ := ST.out
    clear zl zB
    go_enter Tryd.func4, Tryd.ntmps4
    go_wp2_with fail
    refine (shown_any _ (HT.out.below ST.out.2.2)).mono ?_
    rintro e w1x ⟨rfl, hb⟩
    have ST1 := Lib.hid (KS.out _ _ ST.out hb)
    clear hb
    clear z0 z1 z2
    obtain ⟨⟨z0, z1, z2⟩, zl, zB⟩ := ST1.out
    clear zl zB
    go_wp2
    go_ret
    exact ⟨rfl, ST1.out.2.2⟩
end Go.Proofs.YtgjhpcmpgkfnkaaDoor
