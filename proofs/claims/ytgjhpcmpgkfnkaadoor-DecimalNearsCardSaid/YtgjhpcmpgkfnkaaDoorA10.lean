/-
  The document's decimals: Cmp: walked.
-/
import Derived.Test.YtgjhpcmpgkfnkaaDoorA9
namespace Go.Proofs.YtgjhpcmpgkfnkaaDoor
open Go.RowKit Go.Shelf

/-- Below 0. -/
def ngV (b : Bool) (l : List UInt8) : Bool := b && decide (l ≠ [])
theorem cmpV_eq (b : Bool) (l : List UInt8) (x : Int) (c : Bool) (m : List UInt8) (y : Int) (g1 : rightV l x = true) (g2 : rightV m y = true) :
    cmpV b l x c m y = if ngV b l = true then (if ngV c m = true then rsizeV m y l x else -1) else (if ngV c m = true then 1 else rsizeV l x m y) := by
  unfold cmpV
  rw [if_pos (by rw [g1, g2]; rfl)]
  by_cases h1 : l = []
  · subst h1
    have x0 : x = 0 := of_decide_eq_true g1
    subst x0
    by_cases h2 : m = []
    · subst h2
      have y0 : y = 0 := of_decide_eq_true g2
      subst y0
      cases b <;> cases c <;> (simp [sgnV, ngV, rsizeV, sizeV]; simp [Lib.compareBytes])
    · cases b <;> cases c <;> simp [sgnV, ngV, rsizeV, h2]
  · by_cases h2 : m = []
    · subst h2
      cases b <;> cases c <;> simp [sgnV, ngV, rsizeV, h1]
    · cases b <;> cases c <;> simp [sgnV, ngV, rsizeV, h1, h2]
set_option maxRecDepth 100000 in
set_option maxHeartbeats 8000000 in
theorem rcmp_any (b : Bool) (s : ByteArray) (x : Int) (c : Bool) (t : ByteArray) (y : Int) (w : World) (hs : s.size ≤ 1000000) (ht : t.size ≤ 1000000) :
    Calls Tryd.prog 17 #[.agg #[.bool b, .string s, .int .i64 x], .agg #[.bool c, .string t, .int .i64 y]] w fun e w' => e = .returned (.int .i64 (cmpV b s.data.toList x c t.data.toList y)) ∧ Below w.heap.size w w' := by
  have RA := Lib.hid (fun W => rright_any b s x W hs)
  have RB := Lib.hid (fun W => rright_any c t y W ht)
  have BA := Lib.hid (fun W g1 g2 => rsize_any b s x c t y W hs ht g1 g2)
  have BB := Lib.hid (fun W g1 g2 => rsize_any c t y b s x W ht hs g1 g2)
  have SZ := bytes_size s
  have TZ := bytes_size t
  have RV := Lib.hid (fun g1 g2 => cmpV_eq b s.data.toList x c t.data.toList y g1 g2)
  have R0 : Hid (¬ (rightV s.data.toList x && rightV t.data.toList y) = true → cmpV b s.data.toList x c t.data.toList y = 0) := fun h => if_neg h
  obtain ⟨l, hl⟩ : ∃ l, s.data.toList = l := ⟨_, rfl⟩
  obtain ⟨m, hm⟩ : ∃ l, t.data.toList = l := ⟨_, rfl⟩
  rw [hl] at RA BA BB RV R0 SZ ⊢
  rw [hm] at RB BA BB RV R0 TZ ⊢
  clear hl hm
  obtain ⟨z, hz⟩ : ∃ z, cmpV b l x c m y = z := ⟨_, rfl⟩
  rw [hz] at RV R0 ⊢
  clear hz
  obtain ⟨W1, W, hW1, sW1, hW, ⟨e0, e1, e2⟩, ⟨f0, f1, f2⟩, hbW, sz⟩ := boxD2 w b s x c t y
  have KS : Hid (∀ A Z : World, ((A.cell? ⟨w.heap.size, 0, none⟩ = some (.bool b) ∧ A.cell? ⟨w.heap.size, 1, none⟩ = some (.string s) ∧ A.cell? ⟨w.heap.size, 2, none⟩ = some (.int .i64 x) ∧ A.cell? ⟨w.heap.size + 1, 0, none⟩ = some (.bool c) ∧ A.cell? ⟨w.heap.size + 1, 1, none⟩ = some (.string t) ∧ A.cell? ⟨w.heap.size + 1, 2, none⟩ = some (.int .i64 y)) ∧ ((w.heap.size < A.heap.size ∧ w.heap.size + 1 < A.heap.size) ∧ Below w.heap.size w A)) → Below A.heap.size A Z → ((Z.cell? ⟨w.heap.size, 0, none⟩ = some (.bool b) ∧ Z.cell? ⟨w.heap.size, 1, none⟩ = some (.string s) ∧ Z.cell? ⟨w.heap.size, 2, none⟩ = some (.int .i64 x) ∧ Z.cell? ⟨w.heap.size + 1, 0, none⟩ = some (.bool c) ∧ Z.cell? ⟨w.heap.size + 1, 1, none⟩ = some (.string t) ∧ Z.cell? ⟨w.heap.size + 1, 2, none⟩ = some (.int .i64 y)) ∧ ((w.heap.size < Z.heap.size ∧ w.heap.size + 1 < Z.heap.size) ∧ Below w.heap.size w Z))) := by
    rintro A Z ⟨⟨h0, h1, h2, h3, h4, h5⟩, ⟨l0, l1⟩, hb⟩ hx
    have hz := hx.size
    refine ⟨⟨(hx.cell (p := ⟨w.heap.size, 0, none⟩) l0).trans h0, (hx.cell (p := ⟨w.heap.size, 1, none⟩) l0).trans h1, (hx.cell (p := ⟨w.heap.size, 2, none⟩) l0).trans h2, (hx.cell (p := ⟨w.heap.size + 1, 0, none⟩) l1).trans h3, (hx.cell (p := ⟨w.heap.size + 1, 1, none⟩) l1).trans h4, (hx.cell (p := ⟨w.heap.size + 1, 2, none⟩) l1).trans h5⟩, ⟨by omega, by omega⟩, via hb hx⟩
  have ST : Hid ((W.cell? ⟨w.heap.size, 0, none⟩ = some (.bool b) ∧ W.cell? ⟨w.heap.size, 1, none⟩ = some (.string s) ∧ W.cell? ⟨w.heap.size, 2, none⟩ = some (.int .i64 x) ∧ W.cell? ⟨w.heap.size + 1, 0, none⟩ = some (.bool c) ∧ W.cell? ⟨w.heap.size + 1, 1, none⟩ = some (.string t) ∧ W.cell? ⟨w.heap.size + 1, 2, none⟩ = some (.int .i64 y)) ∧ ((w.heap.size < W.heap.size ∧ w.heap.size + 1 < W.heap.size) ∧ Below w.heap.size w W)) := ⟨⟨e0, e1, e2, f0, f1, f2⟩, ⟨by omega, by omega⟩, hbW⟩
  clear hbW sz e0 e1 e2 f0 f1 f2
  cases g1 : rightV l x with
  | false =>
    rw [g1] at RA R0
    obtain ⟨r2, g2⟩ : ∃ r, rightV m y = r := ⟨_, rfl⟩
    rw [g2] at RB
    clear g1 g2
    have A : Hid (z = 0) := R0.out (by simp)
    clear RV R0 SZ TZ BA BB
    obtain ⟨⟨z0, z1, z2, z3, z4, z5⟩, zl, zB⟩ := ST.out
    clear zl zB
    go_enter Tryd.func17, Tryd.ntmps17
    go_wp2_with fail
    refine (RA.out _).mono ?_
    rintro e w1x ⟨rfl, hb⟩
    have ST1 := Lib.hid (KS.out _ _ ST.out hb)
    clear hb
    clear z0 z1 z2 z3 z4 z5
    obtain ⟨⟨z0, z1, z2, z3, z4, z5⟩, zl, zB⟩ := ST1.out
    clear zl zB
    go_wp2_with fail
    refine (RB.out _).mono ?_
    rintro e w2x ⟨rfl, hb⟩
    have ST2 := Lib.hid (KS.out _ _ ST1.out hb)
    clear hb
    clear z0 z1 z2 z3 z4 z5
    obtain ⟨⟨z0, z1, z2, z3, z4, z5⟩, zl, zB⟩ := ST2.out
    clear zl zB
    go_wp2
    go_ret
    exact ⟨by rw [A.out]; rfl, ST2.out.2.2⟩
  | true =>
    rw [g1] at RA R0
    cases g2 : rightV m y with
    | false =>
      rw [g2] at RB R0
      clear g1 g2
      have A : Hid (z = 0) := R0.out (by simp)
      clear RV R0 SZ TZ BA BB
      obtain ⟨⟨z0, z1, z2, z3, z4, z5⟩, zl, zB⟩ := ST.out
      clear zl zB
      go_enter Tryd.func17, Tryd.ntmps17
      go_wp2_with fail
      refine (RA.out _).mono ?_
      rintro e w1x ⟨rfl, hb⟩
      have ST1 := Lib.hid (KS.out _ _ ST.out hb)
      clear hb
      clear z0 z1 z2 z3 z4 z5
      obtain ⟨⟨z0, z1, z2, z3, z4, z5⟩, zl, zB⟩ := ST1.out
      clear zl zB
      go_wp2_with fail
      refine (RB.out _).mono ?_
      rintro e w2x ⟨rfl, hb⟩
      have ST2 := Lib.hid (KS.out _ _ ST1.out hb)
      clear hb
      clear z0 z1 z2 z3 z4 z5
      obtain ⟨⟨z0, z1, z2, z3, z4, z5⟩, zl, zB⟩ := ST2.out
      clear zl zB
      go_wp2
      go_ret
      exact ⟨by rw [A.out]; rfl, ST2.out.2.2⟩
    | true =>
      rw [g2] at RB
      replace RV := Lib.hid (RV.out g1 g2)
      replace BA := Lib.hid (fun W => BA.out W g1 g2)
      replace BB := Lib.hid (fun W => BB.out W g2 g1)
      clear g1 g2
      cases b with
      | false =>
        have n1 : Hid (ngV false l = false) := rfl
        cases c with
        | false =>
          have n2 : Hid (ngV false m = false) := rfl
          have A : Hid (z = rsizeV l x m y) := by unfold Hid; rw [RV.out, n1.out, n2.out]; rfl
          clear RV R0 SZ TZ
          obtain ⟨⟨z0, z1, z2, z3, z4, z5⟩, zl, zB⟩ := ST.out
          clear zl zB
          go_enter Tryd.func17, Tryd.ntmps17
          go_wp2_with fail
          refine (RA.out _).mono ?_
          rintro e w1x ⟨rfl, hb⟩
          have ST1 := Lib.hid (KS.out _ _ ST.out hb)
          clear hb
          clear z0 z1 z2 z3 z4 z5
          obtain ⟨⟨z0, z1, z2, z3, z4, z5⟩, zl, zB⟩ := ST1.out
          clear zl zB
          go_wp2_with fail
          refine (RB.out _).mono ?_
          rintro e w2x ⟨rfl, hb⟩
          have ST2 := Lib.hid (KS.out _ _ ST1.out hb)
          clear hb
          clear z0 z1 z2 z3 z4 z5
          obtain ⟨⟨z0, z1, z2, z3, z4, z5⟩, zl, zB⟩ := ST2.out
          clear zl zB
          go_wp2_with fail
          refine (BA.out _).mono ?_
          rintro e w3x ⟨rfl, hb⟩
          have ST3 := Lib.hid (KS.out _ _ ST2.out hb)
          clear hb
          clear z0 z1 z2 z3 z4 z5
          obtain ⟨⟨z0, z1, z2, z3, z4, z5⟩, zl, zB⟩ := ST3.out
          clear zl zB
          go_wp2
          go_ret
          exact ⟨by rw [A.out]; rfl, ST3.out.2.2⟩
        | true =>
          by_cases h2 : m = []
          · have n2 : Hid (ngV true m = false) := by unfold Hid; rw [h2]; rfl
            have i2 : (t.size : Int) = 0 := by rw [TZ, h2]; rfl
            clear h2
            have A : Hid (z = rsizeV l x m y) := by unfold Hid; rw [RV.out, n1.out, n2.out]; rfl
            clear RV R0 SZ TZ
            obtain ⟨⟨z0, z1, z2, z3, z4, z5⟩, zl, zB⟩ := ST.out
            clear zl zB
            go_enter Tryd.func17, Tryd.ntmps17
            go_wp2_with fail
            refine (RA.out _).mono ?_
            rintro e w1x ⟨rfl, hb⟩
            have ST1 := Lib.hid (KS.out _ _ ST.out hb)
            clear hb
            clear z0 z1 z2 z3 z4 z5
            obtain ⟨⟨z0, z1, z2, z3, z4, z5⟩, zl, zB⟩ := ST1.out
            clear zl zB
            go_wp2_with fail
            refine (RB.out _).mono ?_
            rintro e w2x ⟨rfl, hb⟩
            have ST2 := Lib.hid (KS.out _ _ ST1.out hb)
            clear hb
            clear z0 z1 z2 z3 z4 z5
            obtain ⟨⟨z0, z1, z2, z3, z4, z5⟩, zl, zB⟩ := ST2.out
            clear zl zB
            go_wp2_with fail
            refine (BA.out _).mono ?_
            rintro e w3x ⟨rfl, hb⟩
            have ST3 := Lib.hid (KS.out _ _ ST2.out hb)
            clear hb
            clear z0 z1 z2 z3 z4 z5
            obtain ⟨⟨z0, z1, z2, z3, z4, z5⟩, zl, zB⟩ := ST3.out
            clear zl zB
            go_wp2
            go_ret
            exact ⟨by rw [A.out]; rfl, ST3.out.2.2⟩
          · have n2 : Hid (ngV true m = true) := by unfold Hid ngV; rw [decide_eq_true h2]; rfl
            have i2 : (0 : Int) < (t.size : Int) := by have : t.size ≠ 0 := fun e => h2 (List.eq_nil_of_length_eq_zero (by omega)); omega
            have dn2 : 0 < t.size := by omega
            have dd2 : decide (0 < t.size) = true := decide_eq_true dn2
            have A : Hid (z = 1) := by unfold Hid; rw [RV.out, n1.out, n2.out]; rfl
            clear RV R0 SZ TZ
            obtain ⟨⟨z0, z1, z2, z3, z4, z5⟩, zl, zB⟩ := ST.out
            clear zl zB
            go_enter Tryd.func17, Tryd.ntmps17
            go_wp2_with fail
            refine (RA.out _).mono ?_
            rintro e w1x ⟨rfl, hb⟩
            have ST1 := Lib.hid (KS.out _ _ ST.out hb)
            clear hb
            clear z0 z1 z2 z3 z4 z5
            obtain ⟨⟨z0, z1, z2, z3, z4, z5⟩, zl, zB⟩ := ST1.out
            clear zl zB
            go_wp2_with fail
            refine (RB.out _).mono ?_
            rintro e w2x ⟨rfl, hb⟩
            have ST2 := Lib.hid (KS.out _ _ ST1.out hb)
            clear hb
            clear z0 z1 z2 z3 z4 z5
            obtain ⟨⟨z0, z1, z2, z3, z4, z5⟩, zl, zB⟩ := ST2.out
            clear zl zB
            go_wp2
            go_ret
            exact ⟨by rw [A.out]; rfl, ST2.out.2.2⟩
      | true =>
        by_cases h1 : l = []
        · have n1 : Hid (ngV true l = false) := by unfold Hid; rw [h1]; rfl
          have i1 : (s.size : Int) = 0 := by rw [SZ, h1]; rfl
          clear h1
          cases c with
          | false =>
            have n2 : Hid (ngV false m = false) := rfl
            have A : Hid (z = rsizeV l x m y) := by unfold Hid; rw [RV.out, n1.out, n2.out]; rfl
            clear RV R0 SZ TZ
            obtain ⟨⟨z0, z1, z2, z3, z4, z5⟩, zl, zB⟩ := ST.out
            clear zl zB
            go_enter Tryd.func17, Tryd.ntmps17
            go_wp2_with fail
            refine (RA.out _).mono ?_
            rintro e w1x ⟨rfl, hb⟩
            have ST1 := Lib.hid (KS.out _ _ ST.out hb)
            clear hb
            clear z0 z1 z2 z3 z4 z5
            obtain ⟨⟨z0, z1, z2, z3, z4, z5⟩, zl, zB⟩ := ST1.out
            clear zl zB
            go_wp2_with fail
            refine (RB.out _).mono ?_
            rintro e w2x ⟨rfl, hb⟩
            have ST2 := Lib.hid (KS.out _ _ ST1.out hb)
            clear hb
            clear z0 z1 z2 z3 z4 z5
            obtain ⟨⟨z0, z1, z2, z3, z4, z5⟩, zl, zB⟩ := ST2.out
            clear zl zB
            go_wp2_with fail
            refine (BA.out _).mono ?_
            rintro e w3x ⟨rfl, hb⟩
            have ST3 := Lib.hid (KS.out _ _ ST2.out hb)
            clear hb
            clear z0 z1 z2 z3 z4 z5
            obtain ⟨⟨z0, z1, z2, z3, z4, z5⟩, zl, zB⟩ := ST3.out
            clear zl zB
            go_wp2
            go_ret
            exact ⟨by rw [A.out]; rfl, ST3.out.2.2⟩
          | true =>
            by_cases h2 : m = []
            · have n2 : Hid (ngV true m = false) := by unfold Hid; rw [h2]; rfl
              have i2 : (t.size : Int) = 0 := by rw [TZ, h2]; rfl
              clear h2
              have A : Hid (z = rsizeV l x m y) := by unfold Hid; rw [RV.out, n1.out, n2.out]; rfl
              clear RV R0 SZ TZ
              obtain ⟨⟨z0, z1, z2, z3, z4, z5⟩, zl, zB⟩ := ST.out
              clear zl zB
              go_enter Tryd.func17, Tryd.ntmps17
              go_wp2_with fail
              refine (RA.out _).mono ?_
              rintro e w1x ⟨rfl, hb⟩
              have ST1 := Lib.hid (KS.out _ _ ST.out hb)
              clear hb
              clear z0 z1 z2 z3 z4 z5
              obtain ⟨⟨z0, z1, z2, z3, z4, z5⟩, zl, zB⟩ := ST1.out
              clear zl zB
              go_wp2_with fail
              refine (RB.out _).mono ?_
              rintro e w2x ⟨rfl, hb⟩
              have ST2 := Lib.hid (KS.out _ _ ST1.out hb)
              clear hb
              clear z0 z1 z2 z3 z4 z5
              obtain ⟨⟨z0, z1, z2, z3, z4, z5⟩, zl, zB⟩ := ST2.out
              clear zl zB
              go_wp2_with fail
              refine (BA.out _).mono ?_
              rintro e w3x ⟨rfl, hb⟩
              have ST3 := Lib.hid (KS.out _ _ ST2.out hb)
              clear hb
              clear z0 z1 z2 z3 z4 z5
              obtain ⟨⟨z0, z1, z2, z3, z4, z5⟩, zl, zB⟩ := ST3.out
              clear zl zB
              go_wp2
              go_ret
              exact ⟨by rw [A.out]; rfl, ST3.out.2.2⟩
            · have n2 : Hid (ngV true m = true) := by unfold Hid ngV; rw [decide_eq_true h2]; rfl
              have i2 : (0 : Int) < (t.size : Int) := by have : t.size ≠ 0 := fun e => h2 (List.eq_nil_of_length_eq_zero (by omega)); omega
              have dn2 : 0 < t.size := by omega
              have dd2 : decide (0 < t.size) = true := decide_eq_true dn2
              have A : Hid (z = 1) := by unfold Hid; rw [RV.out, n1.out, n2.out]; rfl
              clear RV R0 SZ TZ
              obtain ⟨⟨z0, z1, z2, z3, z4, z5⟩, zl, zB⟩ := ST.out
              clear zl zB
              go_enter Tryd.func17, Tryd.ntmps17
              go_wp2_with fail
              refine (RA.out _).mono ?_
              rintro e w1x ⟨rfl, hb⟩
              have ST1 := Lib.hid (KS.out _ _ ST.out hb)
              clear hb
              clear z0 z1 z2 z3 z4 z5
              obtain ⟨⟨z0, z1, z2, z3, z4, z5⟩, zl, zB⟩ := ST1.out
              clear zl zB
              go_wp2_with fail
              refine (RB.out _).mono ?_
              rintro e w2x ⟨rfl, hb⟩
              have ST2 := Lib.hid (KS.out _ _ ST1.out hb)
              clear hb
              clear z0 z1 z2 z3 z4 z5
              obtain ⟨⟨z0, z1, z2, z3, z4, z5⟩, zl, zB⟩ := ST2.out
              clear zl zB
              go_wp2
              go_ret
              exact ⟨by rw [A.out]; rfl, ST2.out.2.2⟩
        · have n1 : Hid (ngV true l = true) := by unfold Hid ngV; rw [decide_eq_true h1]; rfl
          have i1 : (0 : Int) < (s.size : Int) := by have : s.size ≠ 0 := fun e => h1 (List.eq_nil_of_length_eq_zero (by omega)); omega
          have dn1 : 0 < s.size := by omega
          have dd1 : decide (0 < s.size) = true := decide_eq_true dn1
          cases c with
          | false =>
            have n2 : Hid (ngV false m = false) := rfl
            have A : Hid (z = -1) := by unfold Hid; rw [RV.out, n1.out, n2.out]; rfl
            clear RV R0 SZ TZ
            obtain ⟨⟨z0, z1, z2, z3, z4, z5⟩, zl, zB⟩ := ST.out
            clear zl zB
            go_enter Tryd.func17, Tryd.ntmps17
            go_wp2_with fail
            refine (RA.out _).mono ?_
            rintro e w1x ⟨rfl, hb⟩
            have ST1 := Lib.hid (KS.out _ _ ST.out hb)
            clear hb
            clear z0 z1 z2 z3 z4 z5
            obtain ⟨⟨z0, z1, z2, z3, z4, z5⟩, zl, zB⟩ := ST1.out
            clear zl zB
            go_wp2_with fail
            refine (RB.out _).mono ?_
            rintro e w2x ⟨rfl, hb⟩
            have ST2 := Lib.hid (KS.out _ _ ST1.out hb)
            clear hb
            clear z0 z1 z2 z3 z4 z5
            obtain ⟨⟨z0, z1, z2, z3, z4, z5⟩, zl, zB⟩ := ST2.out
            clear zl zB
            go_wp2
            go_ret
            exact ⟨by rw [A.out]; rfl, ST2.out.2.2⟩
          | true =>
            by_cases h2 : m = []
            · have n2 : Hid (ngV true m = false) := by unfold Hid; rw [h2]; rfl
              have i2 : (t.size : Int) = 0 := by rw [TZ, h2]; rfl
              clear h2
              have A : Hid (z = -1) := by unfold Hid; rw [RV.out, n1.out, n2.out]; rfl
              clear RV R0 SZ TZ
              obtain ⟨⟨z0, z1, z2, z3, z4, z5⟩, zl, zB⟩ := ST.out
              clear zl zB
              go_enter Tryd.func17, Tryd.ntmps17
              go_wp2_with fail
              refine (RA.out _).mono ?_
              rintro e w1x ⟨rfl, hb⟩
              have ST1 := Lib.hid (KS.out _ _ ST.out hb)
              clear hb
              clear z0 z1 z2 z3 z4 z5
              obtain ⟨⟨z0, z1, z2, z3, z4, z5⟩, zl, zB⟩ := ST1.out
              clear zl zB
              go_wp2_with fail
              refine (RB.out _).mono ?_
              rintro e w2x ⟨rfl, hb⟩
              have ST2 := Lib.hid (KS.out _ _ ST1.out hb)
              clear hb
              clear z0 z1 z2 z3 z4 z5
              obtain ⟨⟨z0, z1, z2, z3, z4, z5⟩, zl, zB⟩ := ST2.out
              clear zl zB
              go_wp2
              go_ret
              exact ⟨by rw [A.out]; rfl, ST2.out.2.2⟩
            · have n2 : Hid (ngV true m = true) := by unfold Hid ngV; rw [decide_eq_true h2]; rfl
              have i2 : (0 : Int) < (t.size : Int) := by have : t.size ≠ 0 := fun e => h2 (List.eq_nil_of_length_eq_zero (by omega)); omega
              have dn2 : 0 < t.size := by omega
              have dd2 : decide (0 < t.size) = true := decide_eq_true dn2
              have A : Hid (z = rsizeV m y l x) := by unfold Hid; rw [RV.out, n1.out, n2.out]; rfl
              clear RV R0 SZ TZ
              obtain ⟨⟨z0, z1, z2, z3, z4, z5⟩, zl, zB⟩ := ST.out
              clear zl zB
              go_enter Tryd.func17, Tryd.ntmps17
              go_wp2_with fail
              refine (RA.out _).mono ?_
              rintro e w1x ⟨rfl, hb⟩
              have ST1 := Lib.hid (KS.out _ _ ST.out hb)
              clear hb
              clear z0 z1 z2 z3 z4 z5
              obtain ⟨⟨z0, z1, z2, z3, z4, z5⟩, zl, zB⟩ := ST1.out
              clear zl zB
              go_wp2_with fail
              refine (RB.out _).mono ?_
              rintro e w2x ⟨rfl, hb⟩
              have ST2 := Lib.hid (KS.out _ _ ST1.out hb)
              clear hb
              clear z0 z1 z2 z3 z4 z5
              obtain ⟨⟨z0, z1, z2, z3, z4, z5⟩, zl, zB⟩ := ST2.out
              clear zl zB
              go_wp2_with fail
              refine (BB.out _).mono ?_
              rintro e w3x ⟨rfl, hb⟩
              have ST3 := Lib.hid (KS.out _ _ ST2.out hb)
              clear hb
              clear z0 z1 z2 z3 z4 z5
              obtain ⟨⟨z0, z1, z2, z3, z4, z5⟩, zl, zB⟩ := ST3.out
              clear zl zB
              go_wp2
              go_ret
              exact ⟨by rw [A.out]; rfl, ST3.out.2.2⟩
end Go.Proofs.YtgjhpcmpgkfnkaaDoor
