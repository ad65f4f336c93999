/-
  DecimalPrints: walked.
-/
import Derived.Test.YtgjhpcmpgkfnkaaDoorA34
import Derived.Test.YtgjhpcmpgkfnkaaDoorA44
namespace Go.Proofs.YtgjhpcmpgkfnkaaDoor
open Go.RowKit Go.Shelf

theorem sizeT_len {l : List UInt8} {p : Int} (hl : l.length ≤ 1100) (p0 : -300000 ≤ p) (p1 : p ≤ 300000) : (sizeT l p).length ≤ 2000 := by
  unfold sizeT
  split
  · simp
  · split
    · split
      · rw [List.length_append, List.length_replicate]; omega
      · rw [List.length_append, List.length_append, List.length_take, List.length_drop, List.length_singleton]; omega
    · split
      · rw [List.length_append, List.length_append, List.length_replicate]; show 2 + _ + _ ≤ _; omega
      · unfold expT
        have a : (if 1 < l.length then (46 : UInt8) :: l.drop 1 else []).length ≤ 1100 := by
          split
          · rw [List.length_cons, List.length_drop]; omega
          · simp
        have c : (if p - 1 < 0 then [(101 : UInt8)] else [101, 43]).length ≤ 2 := by split <;> simp
        have d : (Lib.itoa (p - 1)).length ≤ 7 := by
          unfold Lib.itoa; split
          · rw [List.length_cons]; have := dec_short 5 (p - 1).natAbs (by omega); omega
          · have := dec_short 5 (p - 1).toNat (by omega); omega
        rw [List.length_append, List.length_append, List.length_append, List.length_take]; omega
theorem printT_len {b : Bool} {l : List UInt8} {x : Int} : (printT b l x).length ≤ 2001 := by
  unfold printT
  by_cases h : rightV l x = true
  · rw [if_pos h]
    have pr := pointV_range l x
    have := sizeT_len (p := pointV l x) (rightV_len h).1 (by omega) (by omega)
    rw [List.length_append]
    have c : (if b = true then [(45 : UInt8)] else []).length ≤ 1 := by split <;> simp
    omega
  · rw [if_neg h]; simp
set_option maxRecDepth 100000 in
set_option maxHeartbeats 16000000 in
theorem decimalPrints_any (b : Bool) (s : ByteArray) (x : Int) (w : World) (T : Tabs w) :
    Calls Tryd.prog 6 #[.agg #[.bool b, .string s, .int .i64 x]] w fun e w' => e = .returned (.bool true) ∧ Below w.heap.size w w' := by
  have HT := Lib.hid T
  clear T
  obtain ⟨W, hW, ⟨e0, e1, e2⟩, hbW, sz⟩ := boxD1 w b s x
  have KS : Hid (∀ A Z : World, ((A.cell? ⟨w.heap.size, 0, none⟩ = some (.bool b) ∧ A.cell? ⟨w.heap.size, 1, none⟩ = some (.string s) ∧ A.cell? ⟨w.heap.size, 2, none⟩ = some (.int .i64 x)) ∧ ((w.heap.size < A.heap.size) ∧ Below w.heap.size w A)) → Below A.heap.size A Z → ((Z.cell? ⟨w.heap.size, 0, none⟩ = some (.bool b) ∧ Z.cell? ⟨w.heap.size, 1, none⟩ = some (.string s) ∧ Z.cell? ⟨w.heap.size, 2, none⟩ = some (.int .i64 x)) ∧ ((w.heap.size < Z.heap.size) ∧ Below w.heap.size w Z))) := by
    rintro A Z ⟨⟨h0, h1, h2⟩, l0, hb⟩ hx
    have hz := hx.size
    refine ⟨⟨(hx.cell (p := ⟨w.heap.size, 0, none⟩) l0).trans h0, (hx.cell (p := ⟨w.heap.size, 1, none⟩) l0).trans h1, (hx.cell (p := ⟨w.heap.size, 2, none⟩) l0).trans h2⟩, by omega, via hb hx⟩
  have ST : Hid ((W.cell? ⟨w.heap.size, 0, none⟩ = some (.bool b) ∧ W.cell? ⟨w.heap.size, 1, none⟩ = some (.string s) ∧ W.cell? ⟨w.heap.size, 2, none⟩ = some (.int .i64 x)) ∧ ((w.heap.size < W.heap.size) ∧ Below w.heap.size w W)) := ⟨⟨e0, e1, e2⟩, by omega, hbW⟩
  clear hbW sz e0 e1 e2
  by_cases h1 : (s.size : Int) ≤ 2000
  · cases hr : rightV s.data.toList x with
    | false =>
      have h1q : ¬ 2000 < (s.size : Int) := by omega
      have RA := Lib.hid (fun W => right_any b s x W (by omega))
      rw [hr] at RA
      have PA := Lib.hid (fun W T => print_any b s x W (by omega) T)
      have PB := Lib.hid (fun W => rprint_any b s x W (by omega))
      have A : printT b s.data.toList x = [] := by unfold printT; rw [hr]; rfl
      rw [A] at PA PB
      clear A hr
      obtain ⟨⟨z0, z1, z2⟩, zl, zB⟩ := ST.out
      clear zl zB
      go_enter Tryd.func6, Tryd.ntmps6
      go_wp2_with fail
      refine (shown_any _ (HT.out.below ST.out.2.2)).mono ?_
      rintro e w1x ⟨rfl, hb⟩
      have ST1 := Lib.hid (KS.out _ _ ST.out hb)
      clear hb
      clear z0 z1 z2
      obtain ⟨⟨z0, z1, z2⟩, zl, zB⟩ := ST1.out
      clear zl zB
      go_wp2_with fail
      refine (PA.out _ (HT.out.below ST1.out.2.2)).mono ?_
      rintro e w2x ⟨S1, rfl, hS1, hb⟩
      have ST2 := Lib.hid (KS.out _ _ ST1.out hb)
      clear hb
      clear z0 z1 z2
      obtain ⟨⟨z0, z1, z2⟩, zl, zB⟩ := ST2.out
      clear zl zB
      have HS1 := Lib.hid hS1
      clear hS1
      go_wp2_with fail
      refine (PB.out _).mono ?_
      rintro e w3x ⟨S2, rfl, hS2, hb⟩
      obtain rfl : S2 = S1 := bytes_eq (hS2.trans HS1.out.symm)
      have ST3 := Lib.hid (KS.out _ _ ST2.out hb)
      clear hb hS2
      clear z0 z1 z2
      obtain ⟨⟨z0, z1, z2⟩, zl, zB⟩ := ST3.out
      clear zl zB
      go_wp2_with fail
      refine (RA.out _).mono ?_
      rintro e w4x ⟨rfl, hb⟩
      have ST4 := Lib.hid (KS.out _ _ ST3.out hb)
      clear hb
      clear z0 z1 z2
      obtain ⟨⟨z0, z1, z2⟩, zl, zB⟩ := ST4.out
      clear zl zB
      have e1 : S2.toList.isEmpty = true := by rw [bytes_empty, HS1.out]; rfl
      go_wp2
      go_ret
      exact ⟨rfl, ST4.out.2.2⟩
    | true =>
      have h1q : ¬ 2000 < (s.size : Int) := by omega
      have RA := Lib.hid (fun W => right_any b s x W (by omega))
      rw [hr] at RA
      have PA := Lib.hid (fun W T => print_any b s x W (by omega) T)
      have PB := Lib.hid (fun W => rprint_any b s x W (by omega))
      have PR : parV (printT b s.data.toList x) = (.agg #[.bool b, .string s, .int .i64 x], 0) := by
        rw [par_print b hr]; unfold decV; rw [bytes_back]
      have PL : (printT b s.data.toList x).length ≤ 2001 := printT_len
      have PP := Lib.hid (fun (S : ByteArray) (h : S.data.toList = printT b s.data.toList x) W => (by have := parse_any S W (by rw [bytes_size, h]; omega); rw [h, PR] at this; exact this : Calls Tryd.prog 22 #[.string S] W (MakePost (.agg #[.bool b, .string s, .int .i64 x], 0) W)))
      generalize printT b s.data.toList x = v at *
      clear PR PL hr
      obtain ⟨⟨z0, z1, z2⟩, zl, zB⟩ := ST.out
      clear zl zB
      go_enter Tryd.func6, Tryd.ntmps6
      go_wp2_with fail
      refine (shown_any _ (HT.out.below ST.out.2.2)).mono ?_
      rintro e w1x ⟨rfl, hb⟩
      have ST1 := Lib.hid (KS.out _ _ ST.out hb)
      clear hb
      clear z0 z1 z2
      obtain ⟨⟨z0, z1, z2⟩, zl, zB⟩ := ST1.out
      clear zl zB
      go_wp2_with fail
      refine (PA.out _ (HT.out.below ST1.out.2.2)).mono ?_
      rintro e w2x ⟨S1, rfl, hS1, hb⟩
      have ST2 := Lib.hid (KS.out _ _ ST1.out hb)
      clear hb
      clear z0 z1 z2
      obtain ⟨⟨z0, z1, z2⟩, zl, zB⟩ := ST2.out
      clear zl zB
      have HS1 := Lib.hid hS1
      clear hS1
      go_wp2_with fail
      refine (PB.out _).mono ?_
      rintro e w3x ⟨S2, rfl, hS2, hb⟩
      obtain rfl : S2 = S1 := bytes_eq (hS2.trans HS1.out.symm)
      have ST3 := Lib.hid (KS.out _ _ ST2.out hb)
      clear hb hS2
      clear z0 z1 z2
      obtain ⟨⟨z0, z1, z2⟩, zl, zB⟩ := ST3.out
      clear zl zB
      go_wp2_with fail
      refine (RA.out _).mono ?_
      rintro e w4x ⟨rfl, hb⟩
      have ST4 := Lib.hid (KS.out _ _ ST3.out hb)
      clear hb
      clear z0 z1 z2
      obtain ⟨⟨z0, z1, z2⟩, zl, zB⟩ := ST4.out
      clear zl zB
      go_wp2_with fail
      refine (PP.out _ HS1.out _).mono ?_
      rintro e w5x ⟨rfl, hb⟩
      have ST5 := Lib.hid (KS.out _ _ ST4.out hb)
      clear hb
      clear z0 z1 z2
      obtain ⟨⟨z0, z1, z2⟩, zl, zB⟩ := ST5.out
      clear zl zB
      obtain ⟨v6, hal⟩ : ∃ X, w5x.alloc (.cells #[.bool b, .string s, .int .i64 x] 23) = X := ⟨_, rfl⟩
      have hbn := al1 w5x (.cells #[.bool b, .string s, .int .i64 x] 23)
      rw [hal] at hbn
      have nbx := BoxD.new w5x b s x
      rw [hal] at nbx
      have nbz : w5x.heap.size < v6.heap.size := by rw [← hal]; simp
      have STn := KS.out _ _ ST5.out hbn
      clear hbn
      clear z0 z1 z2
      obtain ⟨p6, hp⟩ : ∃ b, w5x.heap.size = b := ⟨_, rfl⟩
      rw [hp] at nbx nbz
      obtain ⟨⟨z0, z1, z2⟩, l0, zB⟩ := STn
      have ST6 : Hid ((v6.cell? ⟨w.heap.size, 0, none⟩ = some (.bool b) ∧ v6.cell? ⟨w.heap.size, 1, none⟩ = some (.string s) ∧ v6.cell? ⟨w.heap.size, 2, none⟩ = some (.int .i64 x) ∧ v6.cell? ⟨p6, 0, none⟩ = some (.bool b) ∧ v6.cell? ⟨p6, 1, none⟩ = some (.string s) ∧ v6.cell? ⟨p6, 2, none⟩ = some (.int .i64 x)) ∧ ((w.heap.size < v6.heap.size ∧ p6 < v6.heap.size) ∧ Below w.heap.size w v6)) := ⟨⟨z0, z1, z2, nbx.b, nbx.s, nbx.x⟩, ⟨l0, nbz⟩, zB⟩
      clear nbx nbz zB z0 z1 z2 l0
      have KS6 : Hid (∀ A Z : World, ((A.cell? ⟨w.heap.size, 0, none⟩ = some (.bool b) ∧ A.cell? ⟨w.heap.size, 1, none⟩ = some (.string s) ∧ A.cell? ⟨w.heap.size, 2, none⟩ = some (.int .i64 x) ∧ A.cell? ⟨p6, 0, none⟩ = some (.bool b) ∧ A.cell? ⟨p6, 1, none⟩ = some (.string s) ∧ A.cell? ⟨p6, 2, none⟩ = some (.int .i64 x)) ∧ ((w.heap.size < A.heap.size ∧ p6 < A.heap.size) ∧ Below w.heap.size w A)) → Below A.heap.size A Z → ((Z.cell? ⟨w.heap.size, 0, none⟩ = some (.bool b) ∧ Z.cell? ⟨w.heap.size, 1, none⟩ = some (.string s) ∧ Z.cell? ⟨w.heap.size, 2, none⟩ = some (.int .i64 x) ∧ Z.cell? ⟨p6, 0, none⟩ = some (.bool b) ∧ Z.cell? ⟨p6, 1, none⟩ = some (.string s) ∧ Z.cell? ⟨p6, 2, none⟩ = some (.int .i64 x)) ∧ ((w.heap.size < Z.heap.size ∧ p6 < Z.heap.size) ∧ Below w.heap.size w Z))) := by
        rintro A Z ⟨⟨h0, h1, h2, h3, h4, h5⟩, ⟨l0, l1⟩, hb⟩ hx
        have hz := hx.size
        refine ⟨⟨(hx.cell (p := ⟨w.heap.size, 0, none⟩) l0).trans h0, (hx.cell (p := ⟨w.heap.size, 1, none⟩) l0).trans h1, (hx.cell (p := ⟨w.heap.size, 2, none⟩) l0).trans h2, (hx.cell (p := ⟨p6, 0, none⟩) l1).trans h3, (hx.cell (p := ⟨p6, 1, none⟩) l1).trans h4, (hx.cell (p := ⟨p6, 2, none⟩) l1).trans h5⟩, ⟨by omega, by omega⟩, via hb hx⟩
      obtain ⟨⟨z0, z1, z2, z3, z4, z5⟩, zl, zB⟩ := ST6.out
      clear zl zB
      go_wp2
      clear hal hp
      go_ret
      exact ⟨rfl, ST6.out.2.2⟩
  · have h1q : 2000 < (s.size : Int) := by omega
    obtain ⟨⟨z0, z1, z2⟩, zl, zB⟩ := ST.out
    clear zl zB
    go_enter Tryd.func6, Tryd.ntmps6
    go_wp2_with fail
    refine (shown_any _ (HT.out.below ST.out.2.2)).mono ?_
    rintro e w1x ⟨rfl, hb⟩
    have ST1 := Lib.hid (KS.out _ _ ST.out hb)
    clear hb
    clear z0 z1 z2
    obtain ⟨⟨z0, z1, z2⟩, zl, zB⟩ := ST1.out
    clear zl zB
    go_wp2
    go_ret
    exact ⟨rfl, ST1.out.2.2⟩
end Go.Proofs.YtgjhpcmpgkfnkaaDoor
