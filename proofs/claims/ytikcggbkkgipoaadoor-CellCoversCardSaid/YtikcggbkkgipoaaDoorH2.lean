/-
  The chapter's examples: walked.
-/
import Derived.Test.YtikcggbkkgipoaaDoorH1
namespace Go.Proofs.YtikcggbkkgipoaaDoor
open Go.RowKit Go.Shelf

theorem own_below {W W' : World} {b : Nat} {e : TypeId} {size : Nat} {v : Value} {k : Nat} {xs : List Value} (h : W.ownsRow b e size v k xs) (hb : Below W.heap.size W W') : W'.ownsRow b e size v k xs :=
  ownsRow_fr h (fun g hg => hb.block g (h.lt g hg).2)
theorem own_lit (w : World) : (w.alloc (.cells #[.int .i64 0, .int .i64 0, .bool false, .bool false, .int .i64 1, .int .i64 0, .bool false, .bool false, .int .i64 0, .int .i64 1, .bool false, .bool false, .int .i64 1, .int .i64 1, .bool false, .bool false] 23)).ownsRow w.heap.size 23 4 (.slice (some ⟨w.heap.size, 0, none⟩) 4 4) four.length (rowOf four) := own_four w
theorem via_b {w X x : World} {b : Nat} (hb : w.heap.size = b) (h1 : Below b w X) (h2 : Below X.heap.size X x) : Below b w x := by subst hb; exact via h1 h2
theorem Tabs.at_ {w X : World} {b : Nat} (hb : w.heap.size = b) (T : Tabs w) (h : Below b w X) : Tabs X := by subst hb; exact T.below h
theorem al1 (w : World) (o : Obj) : Below w.heap.size w (w.alloc o) := (Below.refl _ _).alloc (Nat.le_refl _) _
set_option maxRecDepth 100000 in
set_option maxHeartbeats 8000000 in
theorem shown_any (w : World) (T : Tabs w) : Calls Tryd.prog 9 #[] w fun e w' => e = .returned (.bool true) ∧ Below w.heap.size w w' := by
  have RA := Lib.hid (fun a b W => ref_any a b W)
  have HT := Lib.hid T
  clear T
  obtain ⟨W1, hW1⟩ : ∃ W1, w.alloc (.cells #[.string { data := #[65, 49] }, .string { data := #[36, 98, 36, 50, 48] }, .string { data := #[66, 76, 49, 48, 48, 48] }, .string { data := #[66, 77, 49] }, .string { data := #[65, 48] }, .string { data := #[65, 49, 48, 48, 49] }, .string { data := #[49, 65] }, .string { data := #[65, 66, 67, 68, 49] }] 9) = W1 := ⟨_, rfl⟩
  have hs1 := World.alloc_heap_new w (.cells #[.string { data := #[65, 49] }, .string { data := #[36, 98, 36, 50, 48] }, .string { data := #[66, 76, 49, 48, 48, 48] }, .string { data := #[66, 77, 49] }, .string { data := #[65, 48] }, .string { data := #[65, 49, 48, 48, 49] }, .string { data := #[49, 65] }, .string { data := #[65, 66, 67, 68, 49] }] 9 (0, 0))
  have hb1 : Below w.heap.size w (w.alloc (.cells #[.string { data := #[65, 49] }, .string { data := #[36, 98, 36, 50, 48] }, .string { data := #[66, 76, 49, 48, 48, 48] }, .string { data := #[66, 77, 49] }, .string { data := #[65, 48] }, .string { data := #[65, 49, 48, 48, 49] }, .string { data := #[49, 65] }, .string { data := #[65, 66, 67, 68, 49] }] 9 (0, 0))) := (Below.refl _ _).alloc (Nat.le_refl _) _
  have s1 : (w.alloc (.cells #[.string { data := #[65, 49] }, .string { data := #[36, 98, 36, 50, 48] }, .string { data := #[66, 76, 49, 48, 48, 48] }, .string { data := #[66, 77, 49] }, .string { data := #[65, 48] }, .string { data := #[65, 49, 48, 48, 49] }, .string { data := #[49, 65] }, .string { data := #[65, 66, 67, 68, 49] }] 9 (0, 0))).heap.size = w.heap.size + 1 := World.size_alloc _ _
  rw [hW1] at hs1 hb1 s1
  have HS1 := Lib.hid hs1; have HB1 := Lib.hid hb1; have S1 := Lib.hid s1
  clear hs1 hb1 s1
  go_enter Tryd.func9, Tryd.ntmps9
  go_wp2_with fail
  refine (RA.out 0 0 _).mono ?_
  rintro e w2 ⟨rfl, hb2⟩
  have HB2 := Lib.hid hb2
  clear hb2 hW1
  go_wp2_with fail
  refine (RA.out 63 999 _).mono ?_
  rintro e w3 ⟨rfl, hb3⟩
  have z2 := HB2.out.size
  have z3 := hb3.size
  have y1 := S1.out
  obtain ⟨Ws, hWs⟩ : ∃ Ws, (w3.alloc (.cells #[.int .i64 0, .int .i64 0, .bool false, .bool false, .int .i64 1, .int .i64 19, .bool true, .bool true, .int .i64 63, .int .i64 999, .bool false, .bool false, .int .i64 0, .int .i64 0, .bool false, .bool false, .int .i64 0, .int .i64 0, .bool false, .bool false, .int .i64 0, .int .i64 0, .bool false, .bool false, .int .i64 0, .int .i64 0, .bool false, .bool false, .int .i64 0, .int .i64 0, .bool false, .bool false] 23)).alloc (.cells #[.int .i64 0, .int .i64 0, .int .i64 0, .int .i64 14, .int .i64 3, .int .i64 14, .int .i64 3, .int .i64 3] 25) = Ws := ⟨_, rfl⟩
  have e2 := World.alloc_heap_new w3 (.cells #[.int .i64 0, .int .i64 0, .bool false, .bool false, .int .i64 1, .int .i64 19, .bool true, .bool true, .int .i64 63, .int .i64 999, .bool false, .bool false, .int .i64 0, .int .i64 0, .bool false, .bool false, .int .i64 0, .int .i64 0, .bool false, .bool false, .int .i64 0, .int .i64 0, .bool false, .bool false, .int .i64 0, .int .i64 0, .bool false, .bool false, .int .i64 0, .int .i64 0, .bool false, .bool false] 23 (0, 0))
  have e3 := World.alloc_heap_new (w3.alloc (.cells #[.int .i64 0, .int .i64 0, .bool false, .bool false, .int .i64 1, .int .i64 19, .bool true, .bool true, .int .i64 63, .int .i64 999, .bool false, .bool false, .int .i64 0, .int .i64 0, .bool false, .bool false, .int .i64 0, .int .i64 0, .bool false, .bool false, .int .i64 0, .int .i64 0, .bool false, .bool false, .int .i64 0, .int .i64 0, .bool false, .bool false, .int .i64 0, .int .i64 0, .bool false, .bool false] 23)) (.cells #[.int .i64 0, .int .i64 0, .int .i64 0, .int .i64 14, .int .i64 3, .int .i64 14, .int .i64 3, .int .i64 3] 25 (0, 0))
  rw [hWs, World.size_alloc] at e3
  have e2' : Ws.heap[w3.heap.size]? = some (.cells #[.int .i64 0, .int .i64 0, .bool false, .bool false, .int .i64 1, .int .i64 19, .bool true, .bool true, .int .i64 63, .int .i64 999, .bool false, .bool false, .int .i64 0, .int .i64 0, .bool false, .bool false, .int .i64 0, .int .i64 0, .bool false, .bool false, .int .i64 0, .int .i64 0, .bool false, .bool false, .int .i64 0, .int .i64 0, .bool false, .bool false, .int .i64 0, .int .i64 0, .bool false, .bool false] 23 (0, 0)) := by rw [← hWs]; exact (Below.heap_alloc _ _ _ (by simp)).trans e2
  have hb4 : Below w3.heap.size w3 Ws := by rw [← hWs]; exact ((Below.refl _ _).alloc (Nat.le_refl _) _).alloc (by simp) _
  have s4 : Ws.heap.size = w3.heap.size + 2 := by rw [← hWs]; simp
  have e1 : Ws.heap[w.heap.size]? = some (.cells #[.string { data := #[65, 49] }, .string { data := #[36, 98, 36, 50, 48] }, .string { data := #[66, 76, 49, 48, 48, 48] }, .string { data := #[66, 77, 49] }, .string { data := #[65, 48] }, .string { data := #[65, 49, 48, 48, 49] }, .string { data := #[49, 65] }, .string { data := #[65, 66, 67, 68, 49] }] 9 (0, 0)) := by
    rw [hb4.block _ (by omega), hb3.block _ (by omega), HB2.out.block _ (by omega)]; exact HS1.out
  have HBs := Lib.hid (((HB1.out.trans (HB2.out.mono (by omega))).trans (hb3.mono (by omega))).trans (hb4.mono (by omega)))
  have LF := Lib.hid (lt8 (P := fun k => Ws.cell? ⟨w.heap.size, k, none⟩ = some (.string (txt k))) (cell_of_block e1 rfl) (cell_of_block e1 rfl) (cell_of_block e1 rfl) (cell_of_block e1 rfl) (cell_of_block e1 rfl) (cell_of_block e1 rfl) (cell_of_block e1 rfl) (cell_of_block e1 rfl))
  have WF := Lib.hid (lt8 (P := fun k => Ws.cell? ⟨w3.heap.size, k * 4, none⟩ = some (.int .i64 (xC k)) ∧ Ws.cell? ⟨w3.heap.size, k * 4 + 1, none⟩ = some (.int .i64 (xR k)) ∧ Ws.cell? ⟨w3.heap.size, k * 4 + 2, none⟩ = some (.bool (xX k)) ∧ Ws.cell? ⟨w3.heap.size, k * 4 + 3, none⟩ = some (.bool (xX k))) ⟨cell_of_block (j := 0) e2' rfl, cell_of_block (j := 1) e2' rfl, cell_of_block (j := 2) e2' rfl, cell_of_block (j := 3) e2' rfl⟩ ⟨cell_of_block (j := 4) e2' rfl, cell_of_block (j := 5) e2' rfl, cell_of_block (j := 6) e2' rfl, cell_of_block (j := 7) e2' rfl⟩ ⟨cell_of_block (j := 8) e2' rfl, cell_of_block (j := 9) e2' rfl, cell_of_block (j := 10) e2' rfl, cell_of_block (j := 11) e2' rfl⟩ ⟨cell_of_block (j := 12) e2' rfl, cell_of_block (j := 13) e2' rfl, cell_of_block (j := 14) e2' rfl, cell_of_block (j := 15) e2' rfl⟩ ⟨cell_of_block (j := 16) e2' rfl, cell_of_block (j := 17) e2' rfl, cell_of_block (j := 18) e2' rfl, cell_of_block (j := 19) e2' rfl⟩ ⟨cell_of_block (j := 20) e2' rfl, cell_of_block (j := 21) e2' rfl, cell_of_block (j := 22) e2' rfl, cell_of_block (j := 23) e2' rfl⟩ ⟨cell_of_block (j := 24) e2' rfl, cell_of_block (j := 25) e2' rfl, cell_of_block (j := 26) e2' rfl, cell_of_block (j := 27) e2' rfl⟩ ⟨cell_of_block (j := 28) e2' rfl, cell_of_block (j := 29) e2' rfl, cell_of_block (j := 30) e2' rfl, cell_of_block (j := 31) e2' rfl⟩)
  have EF := Lib.hid (lt8 (P := fun k => Ws.cell? ⟨w3.heap.size + 1, k, none⟩ = some (.int .i64 (xE k))) (cell_of_block e3 rfl) (cell_of_block e3 rfl) (cell_of_block e3 rfl) (cell_of_block e3 rfl) (cell_of_block e3 rfl) (cell_of_block e3 rfl) (cell_of_block e3 rfl) (cell_of_block e3 rfl))
  have SS := Lib.hid (show w.heap.size < Ws.heap.size ∧ w3.heap.size + 1 < Ws.heap.size by omega)
  clear e1 e2 e2' e3 hb3 hb4 z2 z3 y1 s4 HS1 HB1 S1 HB2
  go_wp2_with fail
  clear hWs
  obtain ⟨b1, hbb1⟩ : ∃ b, w.heap.size = b := ⟨_, rfl⟩
  obtain ⟨b3, hbb3⟩ : ∃ b, w3.heap.size = b := ⟨_, rfl⟩
  rw [hbb1] at LF SS ⊢
  rw [hbb3] at WF EF SS ⊢
  clear hbb3
  have HBB := Lib.hid hbb1
  clear hbb1
  go_loopw [4] (fun iv wx => ∃ k : Nat, iv = .int .i64 (k : Int) ∧ k ≤ 8 ∧ Hid (Below Ws.heap.size Ws wx)) (fun iv _ => 8 - (intOf iv).toNat)
  case atStart => exact ⟨0, rfl, by omega, Below.refl _ _⟩
  case round =>
    obtain ⟨k, rfl, hk, hb⟩ := hrel
    have k0 : (0 : Int) ≤ (k : Int) := by omega
    by_cases hlt : k < 8
    · have klt : (k : Int) < 8 := by omega
      have kw : IntKind.i64.wrap ((k : Int) + 1) = (k : Int) + 1 := by rw [IntKind.wrap_i64]; omega
      have PT := Lib.hid (fun W => parse_txt k hlt W)
      have a0 := (hb.out.cell (p := ⟨b1, k, none⟩) SS.out.1).trans (LF.out k hlt)
      have G := WF.out k hlt
      have GE := EF.out k hlt
      generalize txt k = t at *
      generalize xC k = c at *
      generalize xR k = r at *
      generalize xX k = x at *
      generalize xE k = er at *
      go_wp2_with fail
      refine (PT.out _).mono ?_
      rintro e w5 ⟨rfl, hb5⟩
      have hbx := hb.out.trans (hb5.mono hb.out.size)
      have hz5 := hbx.size
      have hw5 : b1 < w5.heap.size := by have := SS.out.1; omega
      obtain ⟨W6, hW6⟩ : ∃ W6, w5.alloc (.cells #[.int .i64 c, .int .i64 r, .bool x, .bool x] 23) = W6 := ⟨_, rfl⟩
      have bx := BoxR.new w5 c r x x
      have h6 : Below w5.heap.size w5 (w5.alloc (.cells #[.int .i64 c, .int .i64 r, .bool x, .bool x] 23)) := (Below.refl _ _).alloc (Nat.le_refl _) _
      rw [hW6] at bx h6
      have hb6 := hbx.trans (h6.mono hz5)
      have c0 := (hb6.cell (p := ⟨b3, k * 4, none⟩) (by have := SS.out.2; simp; omega)).trans G.1
      have c1 := (hb6.cell (p := ⟨b3, k * 4 + 1, none⟩) (by have := SS.out.2; simp; omega)).trans G.2.1
      have c2 := (hb6.cell (p := ⟨b3, k * 4 + 2, none⟩) (by have := SS.out.2; simp; omega)).trans G.2.2.1
      have c3 := (hb6.cell (p := ⟨b3, k * 4 + 3, none⟩) (by have := SS.out.2; simp; omega)).trans G.2.2.2
      have c4 := (hb6.cell (p := ⟨b3 + 1, k, none⟩) (by have := SS.out.2; simp; omega)).trans GE
      obtain ⟨d0, d1, d2, d3⟩ := bx
      have HB6 := Lib.hid hb6
      obtain ⟨b5, hb5'⟩ : ∃ b, w5.heap.size = b := ⟨_, rfl⟩
      clear hbx hz5 hw5 h6 hb6 G GE hb5 a0
      go_wp2_with fail
      rw [hb5'] at d0 d1 d2 d3
      clear hW6 hb5'
      go_region_held3 (fun w' => w'.cell? ⟨b5, 0, none⟩ = some (.int .i64 c) ∧ w'.cell? ⟨b5, 1, none⟩ = some (.int .i64 r) ∧ w'.cell? ⟨b5, 2, none⟩ = some (.bool x) ∧ w'.cell? ⟨b5, 3, none⟩ = some (.bool x) ∧ w'.cell? ⟨b3, k * 4, none⟩ = some (.int .i64 c) ∧ w'.cell? ⟨b3, k * 4 + 1, none⟩ = some (.int .i64 r) ∧ w'.cell? ⟨b3, k * 4 + 2, none⟩ = some (.bool x) ∧ w'.cell? ⟨b3, k * 4 + 3, none⟩ = some (.bool x) ∧ w'.cell? ⟨b3 + 1, k, none⟩ = some (.int .i64 er)) (simp [*, go_sem]) (first | fail)
      go_wp2
      go_roundw
      case rel => exact ⟨k + 1, by go_num, by omega, HB6.out.drew⟩
      case measure => simp [intOf]; omega
    · have klt : ¬ (k : Int) < 8 := by omega
      have HBr := Lib.hid (show Below b1 w wr by rw [← HBB.out]; exact HBs.out.trans (hb.out.mono HBs.out.size))
      go_wp2_with fail
      refine (RA.out 1 1 _).mono ?_
      rintro e v5 ⟨rfl, hbn⟩
      have HC5 := Lib.hid (via_b HBB.out HBr.out hbn)
      clear hbn HBr
      go_wp2_with fail
      refine (RA.out 0 0 _).mono ?_
      rintro e v6 ⟨rfl, hbn⟩
      have HC6 := Lib.hid (via_b HBB.out HC5.out hbn)
      clear hbn HC5
      go_wp2_with fail
      refine (four_any _).mono ?_
      rintro e v7 ⟨vv, rfl, hown, hbn⟩
      have HC7 := Lib.hid (via_b HBB.out HC6.out hbn)
      have OW := Lib.hid hown
      clear hown
      clear hbn HC6
      go_wp2_with fail
      refine (RA.out 0 0 _).mono ?_
      rintro e v8 ⟨rfl, hbn⟩
      have HC8 := Lib.hid (via_b HBB.out HC7.out hbn)
      have ow := own_below OW.out hbn
      clear OW
      have OW := Lib.hid ow
      clear ow
      clear hbn HC7
      go_wp2_with fail
      refine (RA.out 1 0 _).mono ?_
      rintro e v9 ⟨rfl, hbn⟩
      have HC9 := Lib.hid (via_b HBB.out HC8.out hbn)
      have ow := own_below OW.out hbn
      clear OW
      have OW := Lib.hid ow
      clear ow
      clear hbn HC8
      go_wp2_with fail
      refine (RA.out 0 1 _).mono ?_
      rintro e v10 ⟨rfl, hbn⟩
      have HC10 := Lib.hid (via_b HBB.out HC9.out hbn)
      have ow := own_below OW.out hbn
      clear OW
      have OW := Lib.hid ow
      clear ow
      clear hbn HC9
      go_wp2_with fail
      refine (RA.out 1 1 _).mono ?_
      rintro e v11 ⟨rfl, hbn⟩
      have HC11 := Lib.hid (via_b HBB.out HC10.out hbn)
      have ow := own_below OW.out hbn
      clear OW
      have OW := Lib.hid ow
      clear ow
      clear hbn HC10
      go_wp2_with fail
      generalize hal12 : v11.alloc (.cells #[.int .i64 0, .int .i64 0, .bool false, .bool false, .int .i64 1, .int .i64 0, .bool false, .bool false, .int .i64 0, .int .i64 1, .bool false, .bool false, .int .i64 1, .int .i64 1, .bool false, .bool false] 23) = v12
      have hbn := al1 v11 (.cells #[.int .i64 0, .int .i64 0, .bool false, .bool false, .int .i64 1, .int .i64 0, .bool false, .bool false, .int .i64 0, .int .i64 1, .bool false, .bool false, .int .i64 1, .int .i64 1, .bool false, .bool false] 23)
      rw [hal12] at hbn
      have own2 := own_lit v11
      rw [hal12] at own2
      have O2 := Lib.hid own2
      clear own2
      have HC12 := Lib.hid (via_b HBB.out HC11.out hbn)
      have ow := own_below OW.out hbn
      clear OW
      have OW := Lib.hid ow
      clear ow
      clear hbn HC11
      refine (same_any four vv (.slice (some ⟨v11.heap.size, 0, none⟩) 4 4) _ _ _ OW.out O2.out (by decide)).mono ?_
      rintro e v13 ⟨rfl, hbn⟩
      have HC13 := Lib.hid (via_b HBB.out HC12.out hbn)
      have ow := own_below OW.out hbn
      clear OW
      have OW := Lib.hid ow
      clear ow
      clear hbn HC12
      clear OW O2
      go_wp2_with fail
      refine (mov1 _).mono ?_
      rintro e v14 ⟨rfl, hbn⟩
      have HC14 := Lib.hid (via_b HBB.out HC13.out hbn)
      clear hbn HC13
      go_wp2_with fail
      generalize hal15 : v14.alloc (.cells #[.int .i64 0, .int .i64 3, .bool true, .bool false] 23) = v15
      have hbn := al1 v14 (.cells #[.int .i64 0, .int .i64 3, .bool true, .bool false] 23)
      rw [hal15] at hbn
      have bx := BoxR.new v14 0 3 true false
      rw [hal15] at bx
      have bz : v14.heap.size < v15.heap.size := by rw [← hal15]; simp
      obtain ⟨b8, hb8⟩ : ∃ b, v14.heap.size = b := ⟨_, rfl⟩
      rw [hb8] at bx bz ⊢
      have BX0 := Lib.hid bx; have BZ0 := Lib.hid bz
      clear bx bz
      have HC15 := Lib.hid (via_b HBB.out HC14.out hbn)
      clear hbn HC14
      have BX := BX0; have BZ := BZ0
      clear BX0 BZ0
      refine (RA.out 0 0 _).mono ?_
      rintro e v16 ⟨rfl, hbn⟩
      have HC16 := Lib.hid (via_b HBB.out HC15.out hbn)
      have bx := BX.out.on hbn BZ.out
      have bz : b8 < v16.heap.size := by have := hbn.size; have := BZ.out; omega
      clear BX BZ
      have BX := Lib.hid bx; have BZ := Lib.hid bz
      clear bx bz
      clear hbn HC15
      clear hb8 hal15
      go_wp2_with fail
      refine (mov2 _).mono ?_
      rintro e v17 ⟨rfl, hbn⟩
      have HC17 := Lib.hid (via_b HBB.out HC16.out hbn)
      have bx := BX.out.on hbn BZ.out
      have bz : b8 < v17.heap.size := by have := hbn.size; have := BZ.out; omega
      clear BX BZ
      have BX := Lib.hid bx; have BZ := Lib.hid bz
      clear bx bz
      clear hbn HC16
      go_wp2_with fail
      generalize hal18 : v17.alloc (.cells #[.int .i64 0, .int .i64 0, .bool false, .bool false] 23) = v18
      have hbn := al1 v17 (.cells #[.int .i64 0, .int .i64 0, .bool false, .bool false] 23)
      rw [hal18] at hbn
      have HC18 := Lib.hid (via_b HBB.out HC17.out hbn)
      have bx := BX.out.on hbn BZ.out
      have bz : b8 < v18.heap.size := by have := hbn.size; have := BZ.out; omega
      clear BX BZ
      have BX := Lib.hid bx; have BZ := Lib.hid bz
      clear bx bz
      clear hbn HC17
      refine (RA.out 26 0 _).mono ?_
      rintro e v19 ⟨rfl, hbn⟩
      have HC19 := Lib.hid (via_b HBB.out HC18.out hbn)
      have bx := BX.out.on hbn BZ.out
      have bz : b8 < v19.heap.size := by have := hbn.size; have := BZ.out; omega
      clear BX BZ
      have BX := Lib.hid bx; have BZ := Lib.hid bz
      clear bx bz
      clear hbn HC18
      go_wp2_with fail
      refine (prt1 _ (HT.out.at_ HBB.out HC19.out)).mono ?_
      rintro e v20 ⟨rfl, hbn⟩
      have HC20 := Lib.hid (via_b HBB.out HC19.out hbn)
      have bx := BX.out.on hbn BZ.out
      have bz : b8 < v20.heap.size := by have := hbn.size; have := BZ.out; omega
      clear BX BZ
      have BX := Lib.hid bx; have BZ := Lib.hid bz
      clear bx bz
      clear hbn HC19
      go_wp2_with fail
      refine (RA.out 64 0 _).mono ?_
      rintro e v21 ⟨rfl, hbn⟩
      have HC21 := Lib.hid (via_b HBB.out HC20.out hbn)
      have bx := BX.out.on hbn BZ.out
      have bz : b8 < v21.heap.size := by have := hbn.size; have := BZ.out; omega
      clear BX BZ
      have BX := Lib.hid bx; have BZ := Lib.hid bz
      clear bx bz
      clear hbn HC20
      go_wp2_with fail
      refine (prt2 _ (HT.out.at_ HBB.out HC21.out)).mono ?_
      rintro e v22 ⟨rfl, hbn⟩
      have HC22 := Lib.hid (via_b HBB.out HC21.out hbn)
      have bx := BX.out.on hbn BZ.out
      have bz : b8 < v22.heap.size := by have := hbn.size; have := BZ.out; omega
      clear BX BZ
      have BX := Lib.hid bx; have BZ := Lib.hid bz
      clear bx bz
      clear hbn HC21
      go_wp2_with fail
      refine (RA.out 1 1 _).mono ?_
      rintro e v23 ⟨rfl, hbn⟩
      have HC23 := Lib.hid (via_b HBB.out HC22.out hbn)
      have bx := BX.out.on hbn BZ.out
      have bz : b8 < v23.heap.size := by have := hbn.size; have := BZ.out; omega
      clear BX BZ
      have BX := Lib.hid bx; have BZ := Lib.hid bz
      clear bx bz
      clear hbn HC22
      go_wp2_with fail
      refine (ind1 _).mono ?_
      rintro e v24 ⟨rfl, hbn⟩
      have HC24 := Lib.hid (via_b HBB.out HC23.out hbn)
      have bx := BX.out.on hbn BZ.out
      have bz : b8 < v24.heap.size := by have := hbn.size; have := BZ.out; omega
      clear BX BZ
      have BX := Lib.hid bx; have BZ := Lib.hid bz
      clear bx bz
      clear hbn HC23
      go_wp2_with fail
      refine (at1 _).mono ?_
      rintro e v25 ⟨rfl, hbn⟩
      have HC25 := Lib.hid (via_b HBB.out HC24.out hbn)
      have bx := BX.out.on hbn BZ.out
      have bz : b8 < v25.heap.size := by have := hbn.size; have := BZ.out; omega
      clear BX BZ
      have BX := Lib.hid bx; have BZ := Lib.hid bz
      clear bx bz
      clear hbn HC24
      go_wp2_with fail
      refine (RA.out 1 1 _).mono ?_
      rintro e v26 ⟨rfl, hbn⟩
      have HC26 := Lib.hid (via_b HBB.out HC25.out hbn)
      have bx := BX.out.on hbn BZ.out
      have bz : b8 < v26.heap.size := by have := hbn.size; have := BZ.out; omega
      clear BX BZ
      have BX := Lib.hid bx; have BZ := Lib.hid bz
      clear bx bz
      clear hbn HC25
      go_wp2_with fail
      refine (at2 _).mono ?_
      rintro e v27 ⟨rfl, hbn⟩
      have HC27 := Lib.hid (via_b HBB.out HC26.out hbn)
      have bx := BX.out.on hbn BZ.out
      have bz : b8 < v27.heap.size := by have := hbn.size; have := BZ.out; omega
      clear BX BZ
      have BX := Lib.hid bx; have BZ := Lib.hid bz
      clear bx bz
      clear hbn HC26
      go_wp2_with fail
      refine (RA.out (-1) (-1) _).mono ?_
      rintro e v28 ⟨rfl, hbn⟩
      have HC28 := Lib.hid (via_b HBB.out HC27.out hbn)
      have bx := BX.out.on hbn BZ.out
      have bz : b8 < v28.heap.size := by have := hbn.size; have := BZ.out; omega
      clear BX BZ
      have BX := Lib.hid bx; have BZ := Lib.hid bz
      clear bx bz
      clear hbn HC27
      go_wp2_with fail
      refine (RA.out 1 2 _).mono ?_
      rintro e v29 ⟨rfl, hbn⟩
      have HC29 := Lib.hid (via_b HBB.out HC28.out hbn)
      have bx := BX.out.on hbn BZ.out
      have bz : b8 < v29.heap.size := by have := hbn.size; have := BZ.out; omega
      clear BX BZ
      have BX := Lib.hid bx; have BZ := Lib.hid bz
      clear bx bz
      clear hbn HC28
      go_wp2_with fail
      refine (RA.out 0 0 _).mono ?_
      rintro e v30 ⟨rfl, hbn⟩
      have HC30 := Lib.hid (via_b HBB.out HC29.out hbn)
      have bx := BX.out.on hbn BZ.out
      have bz : b8 < v30.heap.size := by have := hbn.size; have := BZ.out; omega
      clear BX BZ
      have BX := Lib.hid bx; have BZ := Lib.hid bz
      clear bx bz
      clear hbn HC29
      go_wp2_with fail
      refine (area1 _).mono ?_
      rintro e v31 ⟨rfl, hbn⟩
      have HC31 := Lib.hid (via_b HBB.out HC30.out hbn)
      have bx := BX.out.on hbn BZ.out
      have bz : b8 < v31.heap.size := by have := hbn.size; have := BZ.out; omega
      clear BX BZ
      have BX := Lib.hid bx; have BZ := Lib.hid bz
      clear bx bz
      clear hbn HC30
      obtain ⟨x0, x1, x2, x3⟩ := BX.out
      go_wp2
      go_ret
      exact ⟨rfl, by rw [HBB.out]; exact HC31.out⟩
end Go.Proofs.YtikcggbkkgipoaaDoor
