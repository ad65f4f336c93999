/-
  Package decimal: bySize, Cmp: walked.
-/
import Derived.Test.YtgjhpcmpgkfnkaaDoorA7
import Derived.Deep.RegionHeld3
namespace Go.Proofs.YtgjhpcmpgkfnkaaDoor
open Go.RowKit Go.Shelf

set_option maxRecDepth 100000 in
set_option maxHeartbeats 8000000 in
theorem bySize_any (b : Bool) (s : ByteArray) (x : Int) (c : Bool) (t : ByteArray) (y : Int) (w : World) (hs : s.size ≤ 1000000) (ht : t.size ≤ 1000000) :
    Calls Tryd.prog 32 #[.agg #[.bool b, .string s, .int .i64 x], .agg #[.bool c, .string t, .int .i64 y]] w fun e w' => e = .returned (.int .i64 (sizeV s.data.toList x t.data.toList y)) ∧ Below w.heap.size w w' := by
  have PA := Lib.hid (fun W => point_any b s x W hs)
  have PB := Lib.hid (fun W => point_any c t y W ht)
  have CM := Lib.hid (fun W => Tryd.strings_Compare s t W)
  have p0 := pointV_range s.data.toList x
  have q0 := pointV_range t.data.toList y
  have S : Hid (sizeV s.data.toList x t.data.toList y = if pointV s.data.toList x < pointV t.data.toList y then -1 else if pointV t.data.toList y < pointV s.data.toList x then 1 else Lib.compareBytes s.data.toList t.data.toList) := rfl
  obtain ⟨p, hp⟩ : ∃ p, pointV s.data.toList x = p := ⟨_, rfl⟩
  obtain ⟨q, hq⟩ : ∃ q, pointV t.data.toList y = q := ⟨_, rfl⟩
  obtain ⟨z, hz⟩ : ∃ z, sizeV s.data.toList x t.data.toList y = z := ⟨_, rfl⟩
  obtain ⟨k, hk⟩ : ∃ k, Lib.compareBytes s.data.toList t.data.toList = k := ⟨_, rfl⟩
  rw [hp] at PA p0 S; rw [hq] at PB q0 S; rw [hz] at S ⊢; rw [hk] at CM S
  clear hp hq hz hk
  obtain ⟨W1, W, hW1, sW1, hW, bx1, bx2, hbW, sz⟩ := boxD2 w b s x c t y
  have BX := Lib.hid (And.intro bx1 (And.intro bx2 (And.intro hbW sz)))
  obtain ⟨e0, e1, e2⟩ := bx1
  obtain ⟨f0, f1, f2⟩ := bx2
  have KS : Hid (∀ A Z : World, ((A.cell? ⟨w.heap.size, 0, none⟩ = some (.bool b) ∧ A.cell? ⟨w.heap.size, 1, none⟩ = some (.string s) ∧ A.cell? ⟨w.heap.size, 2, none⟩ = some (.int .i64 x) ∧ A.cell? ⟨w.heap.size + 1, 0, none⟩ = some (.bool c) ∧ A.cell? ⟨w.heap.size + 1, 1, none⟩ = some (.string t) ∧ A.cell? ⟨w.heap.size + 1, 2, none⟩ = some (.int .i64 y)) ∧ ((w.heap.size < A.heap.size ∧ w.heap.size + 1 < A.heap.size) ∧ Below w.heap.size w A)) → Below A.heap.size A Z → ((Z.cell? ⟨w.heap.size, 0, none⟩ = some (.bool b) ∧ Z.cell? ⟨w.heap.size, 1, none⟩ = some (.string s) ∧ Z.cell? ⟨w.heap.size, 2, none⟩ = some (.int .i64 x) ∧ Z.cell? ⟨w.heap.size + 1, 0, none⟩ = some (.bool c) ∧ Z.cell? ⟨w.heap.size + 1, 1, none⟩ = some (.string t) ∧ Z.cell? ⟨w.heap.size + 1, 2, none⟩ = some (.int .i64 y)) ∧ ((w.heap.size < Z.heap.size ∧ w.heap.size + 1 < Z.heap.size) ∧ Below w.heap.size w Z))) := by
    rintro A Z ⟨⟨h0, h1, h2, h3, h4, h5⟩, ⟨l0, l1⟩, hb⟩ hx
    have hz := hx.size
    refine ⟨⟨(hx.cell (p := ⟨w.heap.size, 0, none⟩) l0).trans h0, (hx.cell (p := ⟨w.heap.size, 1, none⟩) l0).trans h1, (hx.cell (p := ⟨w.heap.size, 2, none⟩) l0).trans h2, (hx.cell (p := ⟨w.heap.size + 1, 0, none⟩) l1).trans h3, (hx.cell (p := ⟨w.heap.size + 1, 1, none⟩) l1).trans h4, (hx.cell (p := ⟨w.heap.size + 1, 2, none⟩) l1).trans h5⟩, ⟨by omega, by omega⟩, via hb hx⟩
  have ST : Hid ((W.cell? ⟨w.heap.size, 0, none⟩ = some (.bool b) ∧ W.cell? ⟨w.heap.size, 1, none⟩ = some (.string s) ∧ W.cell? ⟨w.heap.size, 2, none⟩ = some (.int .i64 x) ∧ W.cell? ⟨w.heap.size + 1, 0, none⟩ = some (.bool c) ∧ W.cell? ⟨w.heap.size + 1, 1, none⟩ = some (.string t) ∧ W.cell? ⟨w.heap.size + 1, 2, none⟩ = some (.int .i64 y)) ∧ ((w.heap.size < W.heap.size ∧ w.heap.size + 1 < W.heap.size) ∧ Below w.heap.size w W)) := ⟨⟨e0, e1, e2, f0, f1, f2⟩, ⟨by omega, by omega⟩, hbW⟩
  clear BX hbW sz e0 e1 e2 f0 f1 f2
  by_cases h1 : p < q
  · have A : Hid (z = -1) := by unfold Hid; rw [S.out, if_pos h1]
    clear S
    go_enter Tryd.func32, Tryd.ntmps32
    go_wp2
    go_region_held3 (fun W => (W.cell? ⟨w.heap.size, 0, none⟩ = some (.bool b) ∧ W.cell? ⟨w.heap.size, 1, none⟩ = some (.string s) ∧ W.cell? ⟨w.heap.size, 2, none⟩ = some (.int .i64 x) ∧ W.cell? ⟨w.heap.size + 1, 0, none⟩ = some (.bool c) ∧ W.cell? ⟨w.heap.size + 1, 1, none⟩ = some (.string t) ∧ W.cell? ⟨w.heap.size + 1, 2, none⟩ = some (.int .i64 y)) ∧ ((w.heap.size < W.heap.size ∧ w.heap.size + 1 < W.heap.size) ∧ Below w.heap.size w W)) (first | exact ⟨ST.out.1, ST.out.2.1, ST.out.2.2.drew⟩ | exact KS.out _ _ (by assumption) (by assumption)) (first | (go_at_call_of 14 (Value.agg #[Value.bool b, Value.string s, Value.int IntKind.i64 x]); refine (PA.out _).mono ?_; rintro e wz ⟨rfl, hbz⟩) | (go_at_call_of 14 (Value.agg #[Value.bool c, Value.string t, Value.int IntKind.i64 y]); refine (PB.out _).mono ?_; rintro e wz ⟨rfl, hbz⟩))
    all_goals
      have hSz : (wz.cell? ⟨w.heap.size, 0, none⟩ = some (.bool b) ∧ wz.cell? ⟨w.heap.size, 1, none⟩ = some (.string s) ∧ wz.cell? ⟨w.heap.size, 2, none⟩ = some (.int .i64 x) ∧ wz.cell? ⟨w.heap.size + 1, 0, none⟩ = some (.bool c) ∧ wz.cell? ⟨w.heap.size + 1, 1, none⟩ = some (.string t) ∧ wz.cell? ⟨w.heap.size + 1, 2, none⟩ = some (.int .i64 y)) ∧ ((w.heap.size < wz.heap.size ∧ w.heap.size + 1 < wz.heap.size) ∧ Below w.heap.size w wz) := by assumption
      have HZ := Lib.hid hSz.2.2
      go_wp2
      go_ret
      exact ⟨by rw [A.out]; rfl, HZ.out⟩
  · by_cases h2 : q < p
    · have A : Hid (z = 1) := by unfold Hid; rw [S.out, if_neg h1, if_pos h2]
      clear S
      go_enter Tryd.func32, Tryd.ntmps32
      go_wp2
      go_region_held3 (fun W => (W.cell? ⟨w.heap.size, 0, none⟩ = some (.bool b) ∧ W.cell? ⟨w.heap.size, 1, none⟩ = some (.string s) ∧ W.cell? ⟨w.heap.size, 2, none⟩ = some (.int .i64 x) ∧ W.cell? ⟨w.heap.size + 1, 0, none⟩ = some (.bool c) ∧ W.cell? ⟨w.heap.size + 1, 1, none⟩ = some (.string t) ∧ W.cell? ⟨w.heap.size + 1, 2, none⟩ = some (.int .i64 y)) ∧ ((w.heap.size < W.heap.size ∧ w.heap.size + 1 < W.heap.size) ∧ Below w.heap.size w W)) (first | exact ⟨ST.out.1, ST.out.2.1, ST.out.2.2.drew⟩ | exact KS.out _ _ (by assumption) (by assumption)) (first | (go_at_call_of 14 (Value.agg #[Value.bool b, Value.string s, Value.int IntKind.i64 x]); refine (PA.out _).mono ?_; rintro e wz ⟨rfl, hbz⟩) | (go_at_call_of 14 (Value.agg #[Value.bool c, Value.string t, Value.int IntKind.i64 y]); refine (PB.out _).mono ?_; rintro e wz ⟨rfl, hbz⟩))
      all_goals
        have hSz : (wz.cell? ⟨w.heap.size, 0, none⟩ = some (.bool b) ∧ wz.cell? ⟨w.heap.size, 1, none⟩ = some (.string s) ∧ wz.cell? ⟨w.heap.size, 2, none⟩ = some (.int .i64 x) ∧ wz.cell? ⟨w.heap.size + 1, 0, none⟩ = some (.bool c) ∧ wz.cell? ⟨w.heap.size + 1, 1, none⟩ = some (.string t) ∧ wz.cell? ⟨w.heap.size + 1, 2, none⟩ = some (.int .i64 y)) ∧ ((w.heap.size < wz.heap.size ∧ w.heap.size + 1 < wz.heap.size) ∧ Below w.heap.size w wz) := by assumption
        have HZ := Lib.hid hSz.2.2
        go_wp2
        go_ret
        exact ⟨by rw [A.out]; rfl, HZ.out⟩
    · have A : Hid (z = k) := by unfold Hid; rw [S.out, if_neg h1, if_neg h2]
      clear S
      go_enter Tryd.func32, Tryd.ntmps32
      go_wp2
      go_region_held3 (fun W => (W.cell? ⟨w.heap.size, 0, none⟩ = some (.bool b) ∧ W.cell? ⟨w.heap.size, 1, none⟩ = some (.string s) ∧ W.cell? ⟨w.heap.size, 2, none⟩ = some (.int .i64 x) ∧ W.cell? ⟨w.heap.size + 1, 0, none⟩ = some (.bool c) ∧ W.cell? ⟨w.heap.size + 1, 1, none⟩ = some (.string t) ∧ W.cell? ⟨w.heap.size + 1, 2, none⟩ = some (.int .i64 y)) ∧ ((w.heap.size < W.heap.size ∧ w.heap.size + 1 < W.heap.size) ∧ Below w.heap.size w W)) (first | exact ⟨ST.out.1, ST.out.2.1, ST.out.2.2.drew⟩ | exact KS.out _ _ (by assumption) (by assumption)) (first | (go_at_call_of 14 (Value.agg #[Value.bool b, Value.string s, Value.int IntKind.i64 x]); refine (PA.out _).mono ?_; rintro e wz ⟨rfl, hbz⟩) | (go_at_call_of 14 (Value.agg #[Value.bool c, Value.string t, Value.int IntKind.i64 y]); refine (PB.out _).mono ?_; rintro e wz ⟨rfl, hbz⟩))
      all_goals
        have hSz : (wz.cell? ⟨w.heap.size, 0, none⟩ = some (.bool b) ∧ wz.cell? ⟨w.heap.size, 1, none⟩ = some (.string s) ∧ wz.cell? ⟨w.heap.size, 2, none⟩ = some (.int .i64 x) ∧ wz.cell? ⟨w.heap.size + 1, 0, none⟩ = some (.bool c) ∧ wz.cell? ⟨w.heap.size + 1, 1, none⟩ = some (.string t) ∧ wz.cell? ⟨w.heap.size + 1, 2, none⟩ = some (.int .i64 y)) ∧ ((w.heap.size < wz.heap.size ∧ w.heap.size + 1 < wz.heap.size) ∧ Below w.heap.size w wz) := by assumption
        obtain ⟨⟨z0, z1, z2, z3, z4, z5⟩, zl, zB⟩ := hSz
        have HZ := Lib.hid zB
        clear zB zl
        go_wp2_with fail
        refine (CM.out _).mono ?_
        rintro e w4 ⟨rfl, rfl⟩
        go_wp2
        go_ret
        exact ⟨by rw [A.out]; rfl, HZ.out⟩
theorem sgnV_range (b : Bool) (l : List UInt8) : -1 ≤ sgnV b l ∧ sgnV b l ≤ 1 := by
  unfold sgnV; split
  · omega
  · split <;> omega
set_option maxRecDepth 100000 in
set_option maxHeartbeats 8000000 in
theorem cmp_any (b : Bool) (s : ByteArray) (x : Int) (c : Bool) (t : ByteArray) (y : Int) (w : World) (hs : s.size ≤ 1000000) (ht : t.size ≤ 1000000) :
    Calls Tryd.prog 16 #[.agg #[.bool b, .string s, .int .i64 x], .agg #[.bool c, .string t, .int .i64 y]] w fun e w' => e = .returned (.int .i64 (cmpV b s.data.toList x c t.data.toList y)) ∧ Below w.heap.size w w' := by
  have RA := Lib.hid (fun W => right_any b s x W hs)
  have RB := Lib.hid (fun W => right_any c t y W ht)
  have SA := Lib.hid (fun W => sign_any b s x W)
  have SB := Lib.hid (fun W => sign_any c t y W)
  have BA := Lib.hid (fun W => bySize_any b s x c t y W hs ht)
  have BB := Lib.hid (fun W => bySize_any c t y b s x W ht hs)
  have p0 := sgnV_range b s.data.toList
  have q0 := sgnV_range c t.data.toList
  have S : Hid (cmpV b s.data.toList x c t.data.toList y = if (rightV s.data.toList x && rightV t.data.toList y) = true then
    (if sgnV b s.data.toList < sgnV c t.data.toList then -1 else if sgnV c t.data.toList < sgnV b s.data.toList then 1 else if sgnV b s.data.toList < 0 then sizeV t.data.toList y s.data.toList x else sizeV s.data.toList x t.data.toList y)
  else 0) := rfl
  obtain ⟨p, hp⟩ : ∃ p, sgnV b s.data.toList = p := ⟨_, rfl⟩
  obtain ⟨q, hq⟩ : ∃ q, sgnV c t.data.toList = q := ⟨_, rfl⟩
  obtain ⟨z, hz⟩ : ∃ z, cmpV b s.data.toList x c t.data.toList y = z := ⟨_, rfl⟩
  obtain ⟨k, hk⟩ : ∃ k, sizeV s.data.toList x t.data.toList y = k := ⟨_, rfl⟩
  obtain ⟨m, hm⟩ : ∃ m, sizeV t.data.toList y s.data.toList x = m := ⟨_, rfl⟩
  obtain ⟨r1, hr1⟩ : ∃ r, rightV s.data.toList x = r := ⟨_, rfl⟩
  obtain ⟨r2, hr2⟩ : ∃ r, rightV t.data.toList y = r := ⟨_, rfl⟩
  rw [hp] at SA p0 S; rw [hq] at SB q0 S; rw [hz] at S ⊢; rw [hk] at BA S; rw [hm] at BB S; rw [hr1] at RA S; rw [hr2] at RB S
  clear hp hq hz hk hm hr1 hr2
  obtain ⟨W1, W, hW1, sW1, hW, ⟨e0, e1, e2⟩, ⟨f0, f1, f2⟩, hbW, sz⟩ := boxD2 w b s x c t y
  have KS : Hid (∀ A Z : World, ((A.cell? ⟨w.heap.size, 0, none⟩ = some (.bool b) ∧ A.cell? ⟨w.heap.size, 1, none⟩ = some (.string s) ∧ A.cell? ⟨w.heap.size, 2, none⟩ = some (.int .i64 x) ∧ A.cell? ⟨w.heap.size + 1, 0, none⟩ = some (.bool c) ∧ A.cell? ⟨w.heap.size + 1, 1, none⟩ = some (.string t) ∧ A.cell? ⟨w.heap.size + 1, 2, none⟩ = some (.int .i64 y)) ∧ ((w.heap.size < A.heap.size ∧ w.heap.size + 1 < A.heap.size) ∧ Below w.heap.size w A)) → Below A.heap.size A Z → ((Z.cell? ⟨w.heap.size, 0, none⟩ = some (.bool b) ∧ Z.cell? ⟨w.heap.size, 1, none⟩ = some (.string s) ∧ Z.cell? ⟨w.heap.size, 2, none⟩ = some (.int .i64 x) ∧ Z.cell? ⟨w.heap.size + 1, 0, none⟩ = some (.bool c) ∧ Z.cell? ⟨w.heap.size + 1, 1, none⟩ = some (.string t) ∧ Z.cell? ⟨w.heap.size + 1, 2, none⟩ = some (.int .i64 y)) ∧ ((w.heap.size < Z.heap.size ∧ w.heap.size + 1 < Z.heap.size) ∧ Below w.heap.size w Z))) := by
    rintro A Z ⟨⟨h0, h1, h2, h3, h4, h5⟩, ⟨l0, l1⟩, hb⟩ hx
    have hz := hx.size
    refine ⟨⟨(hx.cell (p := ⟨w.heap.size, 0, none⟩) l0).trans h0, (hx.cell (p := ⟨w.heap.size, 1, none⟩) l0).trans h1, (hx.cell (p := ⟨w.heap.size, 2, none⟩) l0).trans h2, (hx.cell (p := ⟨w.heap.size + 1, 0, none⟩) l1).trans h3, (hx.cell (p := ⟨w.heap.size + 1, 1, none⟩) l1).trans h4, (hx.cell (p := ⟨w.heap.size + 1, 2, none⟩) l1).trans h5⟩, ⟨by omega, by omega⟩, via hb hx⟩
  have ST : Hid ((W.cell? ⟨w.heap.size, 0, none⟩ = some (.bool b) ∧ W.cell? ⟨w.heap.size, 1, none⟩ = some (.string s) ∧ W.cell? ⟨w.heap.size, 2, none⟩ = some (.int .i64 x) ∧ W.cell? ⟨w.heap.size + 1, 0, none⟩ = some (.bool c) ∧ W.cell? ⟨w.heap.size + 1, 1, none⟩ = some (.string t) ∧ W.cell? ⟨w.heap.size + 1, 2, none⟩ = some (.int .i64 y)) ∧ ((w.heap.size < W.heap.size ∧ w.heap.size + 1 < W.heap.size) ∧ Below w.heap.size w W)) := ⟨⟨e0, e1, e2, f0, f1, f2⟩, ⟨by omega, by omega⟩, hbW⟩
  clear hbW sz e0 e1 e2 f0 f1 f2
  cases r1 with
  | false =>
    have A : Hid (z = 0) := S.out
    clear S
    obtain ⟨⟨z0, z1, z2, z3, z4, z5⟩, zl, zB⟩ := ST.out
    clear zl zB
    go_enter Tryd.func16, Tryd.ntmps16
    go_wp2_with fail
    refine (RA.out _).mono ?_
    rintro e w1x ⟨rfl, hb⟩
    have ST1 := Lib.hid (KS.out _ _ ST.out hb)
    clear hb
    clear z0 z1 z2 z3 z4 z5
    obtain ⟨⟨z0, z1, z2, z3, z4, z5⟩, zl, zB⟩ := ST1.out
    clear zl zB
    go_wp2
    go_ret
    exact ⟨by rw [A.out]; rfl, ST1.out.2.2⟩
  | true =>
    cases r2 with
    | false =>
      have A : Hid (z = 0) := S.out
      clear S
      obtain ⟨⟨z0, z1, z2, z3, z4, z5⟩, zl, zB⟩ := ST.out
      clear zl zB
      go_enter Tryd.func16, Tryd.ntmps16
      go_wp2_with fail
      refine (RA.out _).mono ?_
      rintro e w1x ⟨rfl, hb⟩
      have ST1 := Lib.hid (KS.out _ _ ST.out hb)
      clear hb
      clear z0 z1 z2 z3 z4 z5
      obtain ⟨⟨z0, z1, z2, z3, z4, z5⟩, zl, zB⟩ := ST1.out
      clear zl zB
      go_wp2_with fail
      refine (RB.out _).mono ?_
      rintro e w2x ⟨rfl, hb⟩
      have ST2 := Lib.hid (KS.out _ _ ST1.out hb)
      clear hb
      clear z0 z1 z2 z3 z4 z5
      obtain ⟨⟨z0, z1, z2, z3, z4, z5⟩, zl, zB⟩ := ST2.out
      clear zl zB
      go_wp2
      go_ret
      exact ⟨by rw [A.out]; rfl, ST2.out.2.2⟩
    | true =>
      replace S := Lib.hid (S.out.trans (if_pos rfl))
      by_cases h1 : p < q
      · have A : Hid (z = -1) := by unfold Hid; rw [S.out, if_pos h1]
        clear S
        obtain ⟨⟨z0, z1, z2, z3, z4, z5⟩, zl, zB⟩ := ST.out
        clear zl zB
        go_enter Tryd.func16, Tryd.ntmps16
        go_wp2_with fail
        refine (RA.out _).mono ?_
        rintro e w1x ⟨rfl, hb⟩
        have ST1 := Lib.hid (KS.out _ _ ST.out hb)
        clear hb
        clear z0 z1 z2 z3 z4 z5
        obtain ⟨⟨z0, z1, z2, z3, z4, z5⟩, zl, zB⟩ := ST1.out
        clear zl zB
        go_wp2_with fail
        refine (RB.out _).mono ?_
        rintro e w2x ⟨rfl, hb⟩
        have ST2 := Lib.hid (KS.out _ _ ST1.out hb)
        clear hb
        clear z0 z1 z2 z3 z4 z5
        obtain ⟨⟨z0, z1, z2, z3, z4, z5⟩, zl, zB⟩ := ST2.out
        clear zl zB
        clear z0 z1 z2 z3 z4 z5
        go_wp2
        go_region_held3 (fun W => (W.cell? ⟨w.heap.size, 0, none⟩ = some (.bool b) ∧ W.cell? ⟨w.heap.size, 1, none⟩ = some (.string s) ∧ W.cell? ⟨w.heap.size, 2, none⟩ = some (.int .i64 x) ∧ W.cell? ⟨w.heap.size + 1, 0, none⟩ = some (.bool c) ∧ W.cell? ⟨w.heap.size + 1, 1, none⟩ = some (.string t) ∧ W.cell? ⟨w.heap.size + 1, 2, none⟩ = some (.int .i64 y)) ∧ ((w.heap.size < W.heap.size ∧ w.heap.size + 1 < W.heap.size) ∧ Below w.heap.size w W)) (first | exact ⟨ST2.out.1, ST2.out.2.1, ST2.out.2.2.drew⟩ | exact KS.out _ _ (by assumption) (by assumption)) (first | (go_at_call_of 31 (Value.agg #[Value.bool b, Value.string s, Value.int IntKind.i64 x]); refine (SA.out _).mono ?_; rintro e wz ⟨rfl, hbz⟩) | (go_at_call_of 31 (Value.agg #[Value.bool c, Value.string t, Value.int IntKind.i64 y]); refine (SB.out _).mono ?_; rintro e wz ⟨rfl, hbz⟩))
        all_goals
          have ST3 : (wz.cell? ⟨w.heap.size, 0, none⟩ = some (.bool b) ∧ wz.cell? ⟨w.heap.size, 1, none⟩ = some (.string s) ∧ wz.cell? ⟨w.heap.size, 2, none⟩ = some (.int .i64 x) ∧ wz.cell? ⟨w.heap.size + 1, 0, none⟩ = some (.bool c) ∧ wz.cell? ⟨w.heap.size + 1, 1, none⟩ = some (.string t) ∧ wz.cell? ⟨w.heap.size + 1, 2, none⟩ = some (.int .i64 y)) ∧ ((w.heap.size < wz.heap.size ∧ w.heap.size + 1 < wz.heap.size) ∧ Below w.heap.size w wz) := by assumption
          have ST3 := Lib.hid ST3
          obtain ⟨⟨z0, z1, z2, z3, z4, z5⟩, zl, zB⟩ := ST3.out
          clear zl zB
          go_wp2
          go_ret
          exact ⟨by rw [A.out]; rfl, ST3.out.2.2⟩
      · by_cases h2 : q < p
        · have A : Hid (z = 1) := by unfold Hid; rw [S.out, if_neg h1, if_pos h2]
          clear S
          obtain ⟨⟨z0, z1, z2, z3, z4, z5⟩, zl, zB⟩ := ST.out
          clear zl zB
          go_enter Tryd.func16, Tryd.ntmps16
          go_wp2_with fail
          refine (RA.out _).mono ?_
          rintro e w1x ⟨rfl, hb⟩
          have ST1 := Lib.hid (KS.out _ _ ST.out hb)
          clear hb
          clear z0 z1 z2 z3 z4 z5
          obtain ⟨⟨z0, z1, z2, z3, z4, z5⟩, zl, zB⟩ := ST1.out
          clear zl zB
          go_wp2_with fail
          refine (RB.out _).mono ?_
          rintro e w2x ⟨rfl, hb⟩
          have ST2 := Lib.hid (KS.out _ _ ST1.out hb)
          clear hb
          clear z0 z1 z2 z3 z4 z5
          obtain ⟨⟨z0, z1, z2, z3, z4, z5⟩, zl, zB⟩ := ST2.out
          clear zl zB
          clear z0 z1 z2 z3 z4 z5
          go_wp2
          go_region_held3 (fun W => (W.cell? ⟨w.heap.size, 0, none⟩ = some (.bool b) ∧ W.cell? ⟨w.heap.size, 1, none⟩ = some (.string s) ∧ W.cell? ⟨w.heap.size, 2, none⟩ = some (.int .i64 x) ∧ W.cell? ⟨w.heap.size + 1, 0, none⟩ = some (.bool c) ∧ W.cell? ⟨w.heap.size + 1, 1, none⟩ = some (.string t) ∧ W.cell? ⟨w.heap.size + 1, 2, none⟩ = some (.int .i64 y)) ∧ ((w.heap.size < W.heap.size ∧ w.heap.size + 1 < W.heap.size) ∧ Below w.heap.size w W)) (first | exact ⟨ST2.out.1, ST2.out.2.1, ST2.out.2.2.drew⟩ | exact KS.out _ _ (by assumption) (by assumption)) (first | (go_at_call_of 31 (Value.agg #[Value.bool b, Value.string s, Value.int IntKind.i64 x]); refine (SA.out _).mono ?_; rintro e wz ⟨rfl, hbz⟩) | (go_at_call_of 31 (Value.agg #[Value.bool c, Value.string t, Value.int IntKind.i64 y]); refine (SB.out _).mono ?_; rintro e wz ⟨rfl, hbz⟩))
          all_goals
            have ST3 : (wz.cell? ⟨w.heap.size, 0, none⟩ = some (.bool b) ∧ wz.cell? ⟨w.heap.size, 1, none⟩ = some (.string s) ∧ wz.cell? ⟨w.heap.size, 2, none⟩ = some (.int .i64 x) ∧ wz.cell? ⟨w.heap.size + 1, 0, none⟩ = some (.bool c) ∧ wz.cell? ⟨w.heap.size + 1, 1, none⟩ = some (.string t) ∧ wz.cell? ⟨w.heap.size + 1, 2, none⟩ = some (.int .i64 y)) ∧ ((w.heap.size < wz.heap.size ∧ w.heap.size + 1 < wz.heap.size) ∧ Below w.heap.size w wz) := by assumption
            have ST3 := Lib.hid ST3
            obtain ⟨⟨z0, z1, z2, z3, z4, z5⟩, zl, zB⟩ := ST3.out
            clear zl zB
            go_wp2
            go_ret
            exact ⟨by rw [A.out]; rfl, ST3.out.2.2⟩
        · by_cases h3 : p < 0
          · have A : Hid (z = m) := by unfold Hid; rw [S.out, if_neg h1, if_neg h2, if_pos h3]
            clear S
            obtain ⟨⟨z0, z1, z2, z3, z4, z5⟩, zl, zB⟩ := ST.out
            clear zl zB
            go_enter Tryd.func16, Tryd.ntmps16
            go_wp2_with fail
            refine (RA.out _).mono ?_
            rintro e w1x ⟨rfl, hb⟩
            have ST1 := Lib.hid (KS.out _ _ ST.out hb)
            clear hb
            clear z0 z1 z2 z3 z4 z5
            obtain ⟨⟨z0, z1, z2, z3, z4, z5⟩, zl, zB⟩ := ST1.out
            clear zl zB
            go_wp2_with fail
            refine (RB.out _).mono ?_
            rintro e w2x ⟨rfl, hb⟩
            have ST2 := Lib.hid (KS.out _ _ ST1.out hb)
            clear hb
            clear z0 z1 z2 z3 z4 z5
            obtain ⟨⟨z0, z1, z2, z3, z4, z5⟩, zl, zB⟩ := ST2.out
            clear zl zB
            clear z0 z1 z2 z3 z4 z5
            go_wp2
            go_region_held3 (fun W => (W.cell? ⟨w.heap.size, 0, none⟩ = some (.bool b) ∧ W.cell? ⟨w.heap.size, 1, none⟩ = some (.string s) ∧ W.cell? ⟨w.heap.size, 2, none⟩ = some (.int .i64 x) ∧ W.cell? ⟨w.heap.size + 1, 0, none⟩ = some (.bool c) ∧ W.cell? ⟨w.heap.size + 1, 1, none⟩ = some (.string t) ∧ W.cell? ⟨w.heap.size + 1, 2, none⟩ = some (.int .i64 y)) ∧ ((w.heap.size < W.heap.size ∧ w.heap.size + 1 < W.heap.size) ∧ Below w.heap.size w W)) (first | exact ⟨ST2.out.1, ST2.out.2.1, ST2.out.2.2.drew⟩ | exact KS.out _ _ (by assumption) (by assumption)) (first | (go_at_call_of 31 (Value.agg #[Value.bool b, Value.string s, Value.int IntKind.i64 x]); refine (SA.out _).mono ?_; rintro e wz ⟨rfl, hbz⟩) | (go_at_call_of 31 (Value.agg #[Value.bool c, Value.string t, Value.int IntKind.i64 y]); refine (SB.out _).mono ?_; rintro e wz ⟨rfl, hbz⟩))
            all_goals
              have ST3 : (wz.cell? ⟨w.heap.size, 0, none⟩ = some (.bool b) ∧ wz.cell? ⟨w.heap.size, 1, none⟩ = some (.string s) ∧ wz.cell? ⟨w.heap.size, 2, none⟩ = some (.int .i64 x) ∧ wz.cell? ⟨w.heap.size + 1, 0, none⟩ = some (.bool c) ∧ wz.cell? ⟨w.heap.size + 1, 1, none⟩ = some (.string t) ∧ wz.cell? ⟨w.heap.size + 1, 2, none⟩ = some (.int .i64 y)) ∧ ((w.heap.size < wz.heap.size ∧ w.heap.size + 1 < wz.heap.size) ∧ Below w.heap.size w wz) := by assumption
              have ST3 := Lib.hid ST3
              obtain ⟨⟨z0, z1, z2, z3, z4, z5⟩, zl, zB⟩ := ST3.out
              clear zl zB
              go_wp2_with fail
              refine (BB.out _).mono ?_
              rintro e w4x ⟨rfl, hb⟩
              have ST4 := Lib.hid (KS.out _ _ ST3.out hb)
              clear hb
              clear z0 z1 z2 z3 z4 z5
              obtain ⟨⟨z0, z1, z2, z3, z4, z5⟩, zl, zB⟩ := ST4.out
              clear zl zB
              go_wp2
              go_ret
              exact ⟨by rw [A.out]; rfl, ST4.out.2.2⟩
          · have A : Hid (z = k) := by unfold Hid; rw [S.out, if_neg h1, if_neg h2, if_neg h3]
            clear S
            obtain ⟨⟨z0, z1, z2, z3, z4, z5⟩, zl, zB⟩ := ST.out
            clear zl zB
            go_enter Tryd.func16, Tryd.ntmps16
            go_wp2_with fail
            refine (RA.out _).mono ?_
            rintro e w1x ⟨rfl, hb⟩
            have ST1 := Lib.hid (KS.out _ _ ST.out hb)
            clear hb
            clear z0 z1 z2 z3 z4 z5
            obtain ⟨⟨z0, z1, z2, z3, z4, z5⟩, zl, zB⟩ := ST1.out
            clear zl zB
            go_wp2_with fail
            refine (RB.out _).mono ?_
            rintro e w2x ⟨rfl, hb⟩
            have ST2 := Lib.hid (KS.out _ _ ST1.out hb)
            clear hb
            clear z0 z1 z2 z3 z4 z5
            obtain ⟨⟨z0, z1, z2, z3, z4, z5⟩, zl, zB⟩ := ST2.out
            clear zl zB
            clear z0 z1 z2 z3 z4 z5
            go_wp2
            go_region_held3 (fun W => (W.cell? ⟨w.heap.size, 0, none⟩ = some (.bool b) ∧ W.cell? ⟨w.heap.size, 1, none⟩ = some (.string s) ∧ W.cell? ⟨w.heap.size, 2, none⟩ = some (.int .i64 x) ∧ W.cell? ⟨w.heap.size + 1, 0, none⟩ = some (.bool c) ∧ W.cell? ⟨w.heap.size + 1, 1, none⟩ = some (.string t) ∧ W.cell? ⟨w.heap.size + 1, 2, none⟩ = some (.int .i64 y)) ∧ ((w.heap.size < W.heap.size ∧ w.heap.size + 1 < W.heap.size) ∧ Below w.heap.size w W)) (first | exact ⟨ST2.out.1, ST2.out.2.1, ST2.out.2.2.drew⟩ | exact KS.out _ _ (by assumption) (by assumption)) (first | (go_at_call_of 31 (Value.agg #[Value.bool b, Value.string s, Value.int IntKind.i64 x]); refine (SA.out _).mono ?_; rintro e wz ⟨rfl, hbz⟩) | (go_at_call_of 31 (Value.agg #[Value.bool c, Value.string t, Value.int IntKind.i64 y]); refine (SB.out _).mono ?_; rintro e wz ⟨rfl, hbz⟩))
            all_goals
              have ST3 : (wz.cell? ⟨w.heap.size, 0, none⟩ = some (.bool b) ∧ wz.cell? ⟨w.heap.size, 1, none⟩ = some (.string s) ∧ wz.cell? ⟨w.heap.size, 2, none⟩ = some (.int .i64 x) ∧ wz.cell? ⟨w.heap.size + 1, 0, none⟩ = some (.bool c) ∧ wz.cell? ⟨w.heap.size + 1, 1, none⟩ = some (.string t) ∧ wz.cell? ⟨w.heap.size + 1, 2, none⟩ = some (.int .i64 y)) ∧ ((w.heap.size < wz.heap.size ∧ w.heap.size + 1 < wz.heap.size) ∧ Below w.heap.size w wz) := by assumption
              have ST3 := Lib.hid ST3
              obtain ⟨⟨z0, z1, z2, z3, z4, z5⟩, zl, zB⟩ := ST3.out
              clear zl zB
              go_wp2_with fail
              refine (BA.out _).mono ?_
              rintro e w4x ⟨rfl, hb⟩
              have ST4 := Lib.hid (KS.out _ _ ST3.out hb)
              clear hb
              clear z0 z1 z2 z3 z4 z5
              obtain ⟨⟨z0, z1, z2, z3, z4, z5⟩, zl, zB⟩ := ST4.out
              clear zl zB
              go_wp2
              go_ret
              exact ⟨by rw [A.out]; rfl, ST4.out.2.2⟩
end Go.Proofs.YtgjhpcmpgkfnkaaDoor
