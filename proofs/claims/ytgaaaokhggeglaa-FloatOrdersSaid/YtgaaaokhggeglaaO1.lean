/-
  The statement FloatOrders, walked: a greater int is never joined to a lesser number.
-/
import Derived.Test.YtgaaaokhggeglaaZ2
import Derived.Deep.DeepCutAuto
import Derived.Deep.CutBlock
namespace Go.Proofs.Ytgaaaokhggeglaa
open Go.RowKit Go.Shelf

theorem bits_ex (h l : Int) (h1 : Word h) (h2 : Word l) : ∃ n : Nat, Bits (val h l) n := by
  have hv := val_bd h1 h2
  by_cases hh : h = 0
  · subst hh
    have e : val 0 l = l := by unfold val; omega
    obtain ⟨b1, b2, b3⟩ := bitLen_bd l.toNat (by have := h2.1; have := h2.2; omega)
    refine ⟨Lib.bitLen l.toNat, by omega, hv.1, ?_, fun hz => ?_⟩
    · show val 0 l < ((2 ^ Lib.bitLen l.toNat : Nat) : Int); have := h2.1; generalize 2 ^ Lib.bitLen l.toNat = z at *; omega
    · have b2 := b2 (by omega)
      show ((2 ^ Lib.bitLen l.toNat : Nat) : Int) ≤ _; generalize 2 ^ Lib.bitLen l.toNat = z at *; omega
  · obtain ⟨x, rfl⟩ := Int.eq_ofNat_of_zero_le h1.1
    obtain ⟨b1, b2, b3⟩ := bitLen_bd x (by have := h1.2; omega)
    have b2 := b2 (by omega)
    have e : pw ((64 + Lib.bitLen x : Nat) : Int) = ((2 ^ Lib.bitLen x * 18446744073709551616 : Nat) : Int) := by
      show ((2 ^ (64 + Lib.bitLen x) : Nat) : Int) = _
      rw [Nat.pow_add, Nat.mul_comm]
    unfold Word at *
    refine ⟨64 + Lib.bitLen x, by omega, hv.1, ?_, fun _ => ?_⟩
    · rw [e]; unfold val; generalize 2 ^ Lib.bitLen x = z at *; omega
    · rw [e]; unfold val; generalize 2 ^ Lib.bitLen x = z at *; omega
theorem join_at {neg more : Bool} {v e : Int} {n : Nat} (hv : Bits v n) : ∀ (w : World) (en : Ending) (w' : World), JoinPost neg v e more w en w' → en = .returned (.int .u64 (joinV neg v e n more)) ∧ Below w.heap.size w w' := by
  intro w en w' h
  obtain ⟨m, hm, h1, h2, rfl, hb⟩ := join_full hv.v0 h
  refine ⟨?_, hb⟩
  by_cases hz : v = 0
  · unfold joinV; rw [if_pos (.inl hz), if_pos (.inl hz)]
  · have := len_unique h1 (h2 hz) hv.lt (hv.ge hz)
    rw [this, Int.toNat_natCast]
/-- Two boxes of two words, swapped, and a new block. -/
theorem swapped {w : World} {n : Nat} {a b c d : Value} (o : Obj) (x y z t : Value) (h0 : w.cell? ⟨n, 0, none⟩ = some a) (h1 : w.cell? ⟨n, 1, none⟩ = some b) (h2 : w.cell? ⟨n + 1, 0, none⟩ = some c) (h3 : w.cell? ⟨n + 1, 1, none⟩ = some d) (hn : n + 1 < w.heap.size) :
    let W := ((((w.setCell ⟨n, 0, none⟩ x).setCell ⟨n, 1, none⟩ y).setCell ⟨n + 1, 0, none⟩ z).setCell ⟨n + 1, 1, none⟩ t).alloc o
    W.cell? ⟨n, 0, none⟩ = some x ∧ W.cell? ⟨n, 1, none⟩ = some y ∧ W.cell? ⟨n + 1, 0, none⟩ = some z ∧ W.cell? ⟨n + 1, 1, none⟩ = some t := by
  intro W
  have hs : ∀ k, k ≤ n + 1 → k < ((((w.setCell ⟨n, 0, none⟩ x).setCell ⟨n, 1, none⟩ y).setCell ⟨n + 1, 0, none⟩ z).setCell ⟨n + 1, 1, none⟩ t).heap.size := fun k hk => by simp [World.setCell]; omega
  have e01 : (⟨n, 0, none⟩ : Addr) ≠ ⟨n, 1, none⟩ := by simp
  have e10 : (⟨n, 1, none⟩ : Addr) ≠ ⟨n, 0, none⟩ := by simp
  have f : ∀ i j, (⟨n + 1, i, none⟩ : Addr) ≠ ⟨n, j, none⟩ := fun i j => by simp
  have f' : ∀ i j, (⟨n, i, none⟩ : Addr) ≠ ⟨n + 1, j, none⟩ := fun i j => by simp
  have g : (⟨n + 1, 0, none⟩ : Addr) ≠ ⟨n + 1, 1, none⟩ := by simp
  have g' : (⟨n + 1, 1, none⟩ : Addr) ≠ ⟨n + 1, 0, none⟩ := by simp
  have k1 : (w.setCell ⟨n, 0, none⟩ x).cell? ⟨n, 1, none⟩ = some b := by rw [World.cell?_setCell_other (h := e01)]; exact h1
  have k2 : ((w.setCell ⟨n, 0, none⟩ x).setCell ⟨n, 1, none⟩ y).cell? ⟨n + 1, 0, none⟩ = some c := by rw [World.cell?_setCell_other (h := f' _ _), World.cell?_setCell_other (h := f' _ _)]; exact h2
  have k3 : (((w.setCell ⟨n, 0, none⟩ x).setCell ⟨n, 1, none⟩ y).setCell ⟨n + 1, 0, none⟩ z).cell? ⟨n + 1, 1, none⟩ = some d := by rw [World.cell?_setCell_other (h := g), World.cell?_setCell_other (h := f' _ _), World.cell?_setCell_other (h := f' _ _)]; exact h3
  refine ⟨?_, ?_, ?_, ?_⟩
  · rw [World.cell?_alloc_past _ _ _ (hs _ (by omega)), World.cell?_setCell_other (h := f _ _), World.cell?_setCell_other (h := f _ _), World.cell?_setCell_other (h := e10)]
    exact World.cell?_setCell_same _ _ _ h0
  · rw [World.cell?_alloc_past _ _ _ (hs _ (by omega)), World.cell?_setCell_other (h := f _ _), World.cell?_setCell_other (h := f _ _)]
    exact World.cell?_setCell_same _ _ _ k1
  · rw [World.cell?_alloc_past _ _ _ (hs _ (by omega)), World.cell?_setCell_other (h := g')]
    exact World.cell?_setCell_same _ _ _ k2
  · rw [World.cell?_alloc_past _ _ _ (hs _ (by omega))]
    exact World.cell?_setCell_same _ _ _ k3
theorem joinV_sign (v e : Int) (n : Nat) (more : Bool) : joinV true v e n more = joinV false v e n more + 9223372036854775808 := by
  unfold joinV signI
  simp only [Bool.false_eq_true, if_false, if_true]
  split
  · omega
  · split <;> omega

set_option maxRecDepth 100000 in
set_option maxHeartbeats 4000000 in
theorem orders_any (ah al bh bl e : Int) (h1 : Word ah) (h2 : Word al) (h3 : Word bh) (h4 : Word bl) (he0 : -9223372036854775808 ≤ e) (he1 : e ≤ 9223372036854775807) (w : World) :
    Calls Try.prog 4 #[.agg #[.int .u64 ah, .int .u64 al], .agg #[.int .u64 bh, .int .u64 bl], .int .i64 e] w (TruePost w) := by
  have H1 := Lib.hid h1; have H2 := Lib.hid h2; have H3 := Lib.hid h3; have H4 := Lib.hid h4
  clear h1 h2 h3 h4
  go_enter Try.func4, Try.ntmps4
  go_wp2_with fail
  refine (shown3_any _).mono ?_
  rintro en w1 ⟨rfl, hb1⟩
  have z1 := hb1.size; simp at z1
  have a10 : w1.cell? ⟨w.heap.size, 0, none⟩ = some (.int .u64 ah) := by rw [(bcell hb1).1 _ _ (by simp; omega)]; simp [go_sem]
  have a11 : w1.cell? ⟨w.heap.size, 1, none⟩ = some (.int .u64 al) := by rw [(bcell hb1).1 _ _ (by simp; omega)]; simp [go_sem]
  have b10 : w1.cell? ⟨w.heap.size + 1, 0, none⟩ = some (.int .u64 bh) := by rw [(bcell hb1).1 _ _ (by simp)]; simp [go_sem]
  have b11 : w1.cell? ⟨w.heap.size + 1, 1, none⟩ = some (.int .u64 bl) := by rw [(bcell hb1).1 _ _ (by simp)]; simp [go_sem]
  have af : ∀ o, w1.frozen? ⟨w.heap.size, o, none⟩ = false := fun o => by rw [(bcell hb1).2 _ _ (by simp; omega)]; simp [go_sem]
  have bf : ∀ o, w1.frozen? ⟨w.heap.size + 1, o, none⟩ = false := fun o => by rw [(bcell hb1).2 _ _ (by simp)]; simp [go_sem]
  have hB1 : Below w.heap.size w w1 := (((Below.refl _ _).alloc (Nat.le_refl _) _).alloc (by simp) _).trans (hb1.mono (by simp; omega))
  clear hb1
  go_wp2_with fail
  refine (cmp_any ah al bh bl H1.out H2.out H3.out H4.out _).mono ?_
  rintro en w2 ⟨c, rfl, hc, hb2⟩
  have z2 := hb2.size
  have a20 : w2.cell? ⟨w.heap.size, 0, none⟩ = some (.int .u64 ah) := by rw [(bcell hb2).1 _ _ (by omega)]; exact a10
  have a21 : w2.cell? ⟨w.heap.size, 1, none⟩ = some (.int .u64 al) := by rw [(bcell hb2).1 _ _ (by omega)]; exact a11
  have b20 : w2.cell? ⟨w.heap.size + 1, 0, none⟩ = some (.int .u64 bh) := by rw [(bcell hb2).1 _ _ (by omega)]; exact b10
  have b21 : w2.cell? ⟨w.heap.size + 1, 1, none⟩ = some (.int .u64 bl) := by rw [(bcell hb2).1 _ _ (by omega)]; exact b11
  have af2 : ∀ o, w2.frozen? ⟨w.heap.size, o, none⟩ = false := fun o => by rw [(bcell hb2).2 _ _ (by omega)]; exact af o
  have bf2 : ∀ o, w2.frozen? ⟨w.heap.size + 1, o, none⟩ = false := fun o => by rw [(bcell hb2).2 _ _ (by omega)]; exact bf o
  have hB2 : Hid (Below w.heap.size w w2) := hB1.trans (hb2.mono (by omega))
  have y2 : w.heap.size + 1 < w2.heap.size := by omega
  have y2' : w.heap.size < w2.heap.size := by omega
  clear hb2 a10 a11 b10 b11 hB1 af bf
  have HC := Lib.hid hc
  go_upto_if 18 with fail
  go_cut [8] (fun _ wx => ∃ p q r s : Int, wx.cell? ⟨w.heap.size, 0, none⟩ = some (.int .u64 p) ∧ wx.cell? ⟨w.heap.size, 1, none⟩ = some (.int .u64 q) ∧ wx.cell? ⟨w.heap.size + 1, 0, none⟩ = some (.int .u64 r) ∧ wx.cell? ⟨w.heap.size + 1, 1, none⟩ = some (.int .u64 s) ∧
    Word p ∧ Word q ∧ Word r ∧ Word s ∧ val p q ≤ val r s ∧ Below w.heap.size w wx ∧ w.heap.size + 1 < wx.heap.size)
  case first =>
    by_cases hpos : 0 < c
    · go_wp2
      go_meet
      obtain ⟨s0, s1, s2, s3⟩ := swapped (.cells #[.int .u64 ah, .int .u64 al] 29) (.int .u64 bh) (.int .u64 bl) (.int .u64 ah) (.int .u64 al) a20 a21 b20 b21 y2
      refine ⟨bh, bl, ah, al, s0, s1, s2, s3, H3.out, H4.out, H1.out, H2.out, by have := HC.out; omega, ?_, ?_⟩
      · exact ((((hB2.out.setCell (by simp) _).setCell (by simp) _).setCell (by simp) _).setCell (by simp) _).alloc (by simp [World.setCell]; omega) _
      · simp [World.setCell]; omega
    · go_wp2
      go_meet
      exact ⟨ah, al, bh, bl, a20, a21, b20, b21, H1.out, H2.out, H3.out, H4.out, by have := HC.out; omega, hB2.out, y2⟩
  case rest =>
    clear a20 a21 b20 b21 af2 bf2 hB2 y2 y2' z1 z2 HC hc
    obtain ⟨p, q, r, s, p0, p1, q0, q1, h1, h2, h3, h4, hle, hB, yc⟩ := hcut
    obtain ⟨na, ba⟩ := bits_ex p q h1 h2
    obtain ⟨nb, bb⟩ := bits_ex r s h3 h4
    obtain ⟨x, hx⟩ : ∃ z, joinV false (val p q) e na false = z := ⟨_, rfl⟩
    obtain ⟨y, hy⟩ : ∃ z, joinV false (val r s) e nb false = z := ⟨_, rfl⟩
    obtain ⟨z, hz⟩ : ∃ z, joinV false (val p q) e na true = z := ⟨_, rfl⟩
    have hxy : x ≤ y := by rw [← hx, ← hy]; exact joinV_mono ba bb hle (fun c => pack_mono c hle)
    have hxz : x ≤ z := by rw [← hx, ← hz]; exact joinV_mono ba ba (Int.le_refl _) (fun c => pack_more _ c)
    have hzy : val p q < val r s → z ≤ y := fun h => by rw [← hz, ← hy]; exact joinV_mono ba bb hle (fun c => pack_next c h)
    have hy1 : y ≤ 9218868437227405312 := by rw [← hy]; exact (joinV_bd false bb).2
    have hz0 : 0 ≤ z := by rw [← hz]; exact (joinV_bd true ba).1
    have hz1 : z ≤ 9218868437227405312 := by rw [← hz]; exact (joinV_bd true ba).2
    have JX : Hid (∀ w, Calls Try.prog 8 #[.bool false, .agg #[.int .u64 p, .int .u64 q], .int .i64 e, .bool false] w fun en w' => en = .returned (.int .u64 x) ∧ Below w.heap.size w w') := fun w => by
      rw [← hx]; exact (join_any false p q e false h1 h2 he0 he1 w).mono (join_at ba w)
    have JY : Hid (∀ w, Calls Try.prog 8 #[.bool false, .agg #[.int .u64 r, .int .u64 s], .int .i64 e, .bool false] w fun en w' => en = .returned (.int .u64 y) ∧ Below w.heap.size w w') := fun w => by
      rw [← hy]; exact (join_any false r s e false h3 h4 he0 he1 w).mono (join_at bb w)
    have JZ : Hid (∀ w, Calls Try.prog 8 #[.bool false, .agg #[.int .u64 p, .int .u64 q], .int .i64 e, .bool true] w fun en w' => en = .returned (.int .u64 z) ∧ Below w.heap.size w w') := fun w => by
      rw [← hz]; exact (join_any false p q e true h1 h2 he0 he1 w).mono (join_at ba w)
    have JT : Hid (∀ w, Calls Try.prog 8 #[.bool true, .agg #[.int .u64 p, .int .u64 q], .int .i64 e, .bool true] w fun en w' => en = .returned (.int .u64 (z + 9223372036854775808)) ∧ Below w.heap.size w w') := fun w => by
      rw [← hz, ← joinV_sign]; exact (join_any true p q e true h1 h2 he0 he1 w).mono (join_at ba w)
    have CM := Lib.hid (fun w => cmp_any p q r s h1 h2 h3 h4 w)
    have HB := Lib.hid hB
    clear hx hy hz hB ba bb h1 h2 h3 h4
    go_wp2_with fail
    refine (JX.out _).mono ?_
    rintro en w3 ⟨rfl, hb3⟩
    have z3 := hb3.size
    have p30 : w3.cell? ⟨w.heap.size, 0, none⟩ = some (.int .u64 p) := by rw [(bcell hb3).1 _ _ (by omega)]; exact p0
    have p31 : w3.cell? ⟨w.heap.size, 1, none⟩ = some (.int .u64 q) := by rw [(bcell hb3).1 _ _ (by omega)]; exact p1
    have q30 : w3.cell? ⟨w.heap.size + 1, 0, none⟩ = some (.int .u64 r) := by rw [(bcell hb3).1 _ _ (by omega)]; exact q0
    have q31 : w3.cell? ⟨w.heap.size + 1, 1, none⟩ = some (.int .u64 s) := by rw [(bcell hb3).1 _ _ (by omega)]; exact q1
    have HB3 : Hid (Below w.heap.size w w3) := HB.out.trans (hb3.mono (by omega))
    clear hb3 p0 p1 q0 q1
    go_wp2_with fail
    refine (JY.out _).mono ?_
    rintro en w4 ⟨rfl, hb4⟩
    have z4 := hb4.size
    have p40 : w4.cell? ⟨w.heap.size, 0, none⟩ = some (.int .u64 p) := by rw [(bcell hb4).1 _ _ (by omega)]; exact p30
    have p41 : w4.cell? ⟨w.heap.size, 1, none⟩ = some (.int .u64 q) := by rw [(bcell hb4).1 _ _ (by omega)]; exact p31
    have q40 : w4.cell? ⟨w.heap.size + 1, 0, none⟩ = some (.int .u64 r) := by rw [(bcell hb4).1 _ _ (by omega)]; exact q30
    have q41 : w4.cell? ⟨w.heap.size + 1, 1, none⟩ = some (.int .u64 s) := by rw [(bcell hb4).1 _ _ (by omega)]; exact q31
    have HB4 : Hid (Below w.heap.size w w4) := HB3.out.trans (hb4.mono (by omega))
    clear hb4 p30 p31 q30 q31
    go_wp2_with fail
    refine (JZ.out _).mono ?_
    rintro en w5 ⟨rfl, hb5⟩
    have z5 := hb5.size
    have p50 : w5.cell? ⟨w.heap.size, 0, none⟩ = some (.int .u64 p) := by rw [(bcell hb5).1 _ _ (by omega)]; exact p40
    have p51 : w5.cell? ⟨w.heap.size, 1, none⟩ = some (.int .u64 q) := by rw [(bcell hb5).1 _ _ (by omega)]; exact p41
    have q50 : w5.cell? ⟨w.heap.size + 1, 0, none⟩ = some (.int .u64 r) := by rw [(bcell hb5).1 _ _ (by omega)]; exact q40
    have q51 : w5.cell? ⟨w.heap.size + 1, 1, none⟩ = some (.int .u64 s) := by rw [(bcell hb5).1 _ _ (by omega)]; exact q41
    have HB5 : Hid (Below w.heap.size w w5) := HB4.out.trans (hb5.mono (by omega))
    clear hb5 p40 p41 q40 q41
    go_wp2_with fail
    refine (CM.out _).mono ?_
    rintro en w6 ⟨c6, rfl, hc6, hb6⟩
    have z6 := hb6.size
    have p60 : w6.cell? ⟨w.heap.size, 0, none⟩ = some (.int .u64 p) := by rw [(bcell hb6).1 _ _ (by omega)]; exact p50
    have p61 : w6.cell? ⟨w.heap.size, 1, none⟩ = some (.int .u64 q) := by rw [(bcell hb6).1 _ _ (by omega)]; exact p51
    have HB6 : Hid (Below w.heap.size w w6) := HB5.out.trans (hb6.mono (by omega))
    have Hzy := Lib.hid hzy
    have Hle := Lib.hid hle
    clear hb6 p50 p51 q50 q51 hzy hle
    rcases hc6 with ⟨rfl, hc6⟩ | ⟨rfl, hc6⟩ | ⟨rfl, hc6⟩
    · have hzy := Hzy.out hc6
      clear hc6
      go_wp2_with fail
      refine (JT.out _).mono ?_
      rintro en w7 ⟨rfl, hb7⟩
      have HB7 : Hid (Below w.heap.size w w7) := HB6.out.trans (hb7.mono (by omega))
      clear hb7
      go_wp2
      go_ret
      exact ⟨rfl, HB7.out⟩
    · have HE := Lib.hid hc6
      clear hc6
      go_wp2_with fail
      refine (JT.out _).mono ?_
      rintro en w7 ⟨rfl, hb7⟩
      have HB7 : Hid (Below w.heap.size w w7) := HB6.out.trans (hb7.mono (by omega))
      clear hb7
      go_wp2
      go_ret
      exact ⟨rfl, HB7.out⟩
    · exfalso; have := Hle.out; omega
end Go.Proofs.Ytgaaaokhggeglaa
