/-
  DecimalReads: walked.
-/
import Derived.Test.YtgjhpcmpgkfnkaaDoorA23
import Derived.Test.YtgjhpcmpgkfnkaaDoorA33
namespace Go.Proofs.YtgjhpcmpgkfnkaaDoor
open Go.RowKit Go.Shelf

theorem endV_parts (σ : NSt) : ∃ (c : Bool) (m : ByteArray) (y e : Int), endV σ = (.agg #[.bool c, .string m, .int .i64 y], e) := by
  unfold endV; split
  · exact ⟨false, ⟨#[]⟩, 0, 3, rfl⟩
  · exact makeV_parts _ _ _
theorem parV_parts (l : List UInt8) : ∃ (c : Bool) (m : ByteArray) (y e : Int), parV l = (.agg #[.bool c, .string m, .int .i64 y], e) := by
  unfold parV
  cases runS st0 l with
  | none => exact ⟨false, ⟨#[]⟩, 0, 3, rfl⟩
  | some σ => exact endV_parts σ
set_option maxRecDepth 100000 in
set_option maxHeartbeats 16000000 in
theorem decimalReads_any (s : ByteArray) (w : World) (T : Tabs w) :
    Calls Tryd.prog 5 #[.string s] w fun e w' => e = .returned (.bool true) ∧ Below w.heap.size w w' := by
  have HT := Lib.hid T
  clear T
  have ST : Hid ((True) ∧ ((True) ∧ Below w.heap.size w w)) := ⟨trivial, trivial, Below.refl _ _⟩
  have KS : Hid (∀ A Z : World, ((True) ∧ ((True) ∧ Below w.heap.size w A)) → Below A.heap.size A Z → ((True) ∧ ((True) ∧ Below w.heap.size w Z))) := fun A Z h hx => ⟨trivial, trivial, via h.2.2 hx⟩
  by_cases h1 : (s.size : Int) ≤ 3000
  · have h1q : ¬ 3000 < (s.size : Int) := by omega
    have MA := Lib.hid (fun W => parse_any s W (by omega))
    have MB := Lib.hid (fun W => rparse_any s W (by omega))
    rw [← parV_doc] at MB
    obtain ⟨cb, cq, cy, er, hmp⟩ := parV_parts s.data.toList
    rw [hmp] at MA MB
    clear hmp
    go_enter Tryd.func5, Tryd.ntmps5
    go_wp2_with fail
    refine (shown_any _ (HT.out.below ST.out.2.2)).mono ?_
    rintro e w1x ⟨rfl, hb⟩
    have ST1 := Lib.hid (KS.out _ _ ST.out hb)
    clear hb
    go_wp2_with fail
    refine (MA.out _).mono ?_
    rintro e w2x ⟨rfl, hb⟩
    have ST2 := Lib.hid (KS.out _ _ ST1.out hb)
    clear hb
    obtain ⟨v3, hal⟩ : ∃ X, w2x.alloc (.cells #[.bool cb, .string cq, .int .i64 cy] 23) = X := ⟨_, rfl⟩
    have hbn := al1 w2x (.cells #[.bool cb, .string cq, .int .i64 cy] 23)
    rw [hal] at hbn
    have nbx := BoxD.new w2x cb cq cy
    rw [hal] at nbx
    have nbz : w2x.heap.size < v3.heap.size := by rw [← hal]; simp
    have STn := KS.out _ _ ST2.out hbn
    clear hbn
    obtain ⟨p3, hp⟩ : ∃ b, w2x.heap.size = b := ⟨_, rfl⟩
    rw [hp] at nbx nbz
    obtain ⟨l0, l1, zB⟩ := STn
    have ST3 : Hid ((v3.cell? ⟨p3, 0, none⟩ = some (.bool cb) ∧ v3.cell? ⟨p3, 1, none⟩ = some (.string cq) ∧ v3.cell? ⟨p3, 2, none⟩ = some (.int .i64 cy)) ∧ ((p3 < v3.heap.size) ∧ Below w.heap.size w v3)) := ⟨⟨nbx.b, nbx.s, nbx.x⟩, nbz, zB⟩
    clear nbx nbz zB l0 l1
    have KS3 : Hid (∀ A Z : World, ((A.cell? ⟨p3, 0, none⟩ = some (.bool cb) ∧ A.cell? ⟨p3, 1, none⟩ = some (.string cq) ∧ A.cell? ⟨p3, 2, none⟩ = some (.int .i64 cy)) ∧ ((p3 < A.heap.size) ∧ Below w.heap.size w A)) → Below A.heap.size A Z → ((Z.cell? ⟨p3, 0, none⟩ = some (.bool cb) ∧ Z.cell? ⟨p3, 1, none⟩ = some (.string cq) ∧ Z.cell? ⟨p3, 2, none⟩ = some (.int .i64 cy)) ∧ ((p3 < Z.heap.size) ∧ Below w.heap.size w Z))) := by
      rintro A Z ⟨⟨h0, h1, h2⟩, l0, hb⟩ hx
      have hz := hx.size
      refine ⟨⟨(hx.cell (p := ⟨p3, 0, none⟩) l0).trans h0, (hx.cell (p := ⟨p3, 1, none⟩) l0).trans h1, (hx.cell (p := ⟨p3, 2, none⟩) l0).trans h2⟩, by omega, via hb hx⟩
    obtain ⟨⟨z0, z1, z2⟩, zl, zB⟩ := ST3.out
    clear zl zB
    go_wp2_with fail
    refine (MB.out _).mono ?_
    rintro e w4x ⟨rfl, hb⟩
    have ST4 := Lib.hid (KS3.out _ _ ST3.out hb)
    clear hb
    clear z0 z1 z2
    obtain ⟨⟨z0, z1, z2⟩, zl, zB⟩ := ST4.out
    clear zl zB
    clear hal hp
    obtain ⟨v5, hal⟩ : ∃ X, w4x.alloc (.cells #[.bool cb, .string cq, .int .i64 cy] 23) = X := ⟨_, rfl⟩
    have hbn := al1 w4x (.cells #[.bool cb, .string cq, .int .i64 cy] 23)
    rw [hal] at hbn
    have nbx := BoxD.new w4x cb cq cy
    rw [hal] at nbx
    have nbz : w4x.heap.size < v5.heap.size := by rw [← hal]; simp
    have STn := KS3.out _ _ ST4.out hbn
    clear hbn
    clear z0 z1 z2
    obtain ⟨p5, hp⟩ : ∃ b, w4x.heap.size = b := ⟨_, rfl⟩
    rw [hp] at nbx nbz
    obtain ⟨⟨z0, z1, z2⟩, l0, zB⟩ := STn
    have ST5 : Hid ((v5.cell? ⟨p3, 0, none⟩ = some (.bool cb) ∧ v5.cell? ⟨p3, 1, none⟩ = some (.string cq) ∧ v5.cell? ⟨p3, 2, none⟩ = some (.int .i64 cy) ∧ v5.cell? ⟨p5, 0, none⟩ = some (.bool cb) ∧ v5.cell? ⟨p5, 1, none⟩ = some (.string cq) ∧ v5.cell? ⟨p5, 2, none⟩ = some (.int .i64 cy)) ∧ ((p3 < v5.heap.size ∧ p5 < v5.heap.size) ∧ Below w.heap.size w v5)) := ⟨⟨z0, z1, z2, nbx.b, nbx.s, nbx.x⟩, ⟨l0, nbz⟩, zB⟩
    clear nbx nbz zB z0 z1 z2 l0
    have KS5 : Hid (∀ A Z : World, ((A.cell? ⟨p3, 0, none⟩ = some (.bool cb) ∧ A.cell? ⟨p3, 1, none⟩ = some (.string cq) ∧ A.cell? ⟨p3, 2, none⟩ = some (.int .i64 cy) ∧ A.cell? ⟨p5, 0, none⟩ = some (.bool cb) ∧ A.cell? ⟨p5, 1, none⟩ = some (.string cq) ∧ A.cell? ⟨p5, 2, none⟩ = some (.int .i64 cy)) ∧ ((p3 < A.heap.size ∧ p5 < A.heap.size) ∧ Below w.heap.size w A)) → Below A.heap.size A Z → ((Z.cell? ⟨p3, 0, none⟩ = some (.bool cb) ∧ Z.cell? ⟨p3, 1, none⟩ = some (.string cq) ∧ Z.cell? ⟨p3, 2, none⟩ = some (.int .i64 cy) ∧ Z.cell? ⟨p5, 0, none⟩ = some (.bool cb) ∧ Z.cell? ⟨p5, 1, none⟩ = some (.string cq) ∧ Z.cell? ⟨p5, 2, none⟩ = some (.int .i64 cy)) ∧ ((p3 < Z.heap.size ∧ p5 < Z.heap.size) ∧ Below w.heap.size w Z))) := by
      rintro A Z ⟨⟨h0, h1, h2, h3, h4, h5⟩, ⟨l0, l1⟩, hb⟩ hx
      have hz := hx.size
      refine ⟨⟨(hx.cell (p := ⟨p3, 0, none⟩) l0).trans h0, (hx.cell (p := ⟨p3, 1, none⟩) l0).trans h1, (hx.cell (p := ⟨p3, 2, none⟩) l0).trans h2, (hx.cell (p := ⟨p5, 0, none⟩) l1).trans h3, (hx.cell (p := ⟨p5, 1, none⟩) l1).trans h4, (hx.cell (p := ⟨p5, 2, none⟩) l1).trans h5⟩, ⟨by omega, by omega⟩, via hb hx⟩
    obtain ⟨⟨z0, z1, z2, z3, z4, z5⟩, zl, zB⟩ := ST5.out
    clear zl zB
    go_wp2
    clear hal hp
    go_ret
    exact ⟨rfl, ST5.out.2.2⟩
  · have h1q : 3000 < (s.size : Int) := by omega
    go_enter Tryd.func5, Tryd.ntmps5
    go_wp2_with fail
    refine (shown_any _ (HT.out.below ST.out.2.2)).mono ?_
    rintro e w1x ⟨rfl, hb⟩
    have ST1 := Lib.hid (KS.out _ _ ST.out hb)
    clear hb
    go_wp2
    go_ret
    exact ⟨rfl, ST1.out.2.2⟩
end Go.Proofs.YtgjhpcmpgkfnkaaDoor
