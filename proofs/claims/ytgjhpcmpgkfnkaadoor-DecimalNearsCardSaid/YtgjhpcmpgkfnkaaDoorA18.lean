/-
  Package decimal: digit: walked.
-/
import Derived.Test.YtgjhpcmpgkfnkaaDoorA17
namespace Go.Proofs.YtgjhpcmpgkfnkaaDoor
open Go.RowKit Go.Shelf

set_option maxRecDepth 100000 in
set_option maxHeartbeats 8000000 in
theorem digit0 (nb B n : Nat) (hB : nb < B) (σ : NSt) (z : Int) (W : World) (hz : 48 ≤ z ∧ z ≤ 57) (hn : n ≤ 100000) (ok : NOk n σ) (h : Num W nb B σ) (hst : σ.st = 0) :
    Calls Tryd.prog 52 #[.pointer (some ⟨nb, 0, none⟩), .int .i32 z] W (TakePost nb B W (digS σ z)) := by
  obtain ⟨st, ng, ds, pl, ne, ex, ec⟩ := σ
  obtain rfl : st = 0 := hst
  obtain ⟨v, nc, own, sz⟩ := h
  obtain ⟨AA, kc, rfl⟩ := own_slice own
  obtain ⟨_, _, dl, p0, p1, cc0, cc9, ee0, ee9, ee1⟩ := ok
  dsimp only at dl p0 p1 cc0 cc9 ee0 ee9 ee1 nc own
  obtain ⟨z0, z1⟩ := hz
  have NX := Lib.hid nc
  obtain ⟨c0, c1, c2, c3, c4, c5, c6, f⟩ := nc
  have f0 := f 0; have f2 := f 2; have f3 := f 3; have f5 := f 5; have f6 := f 6
  clear f
  have cv : IntKind.u8.wrap z = z := by rw [IntKind.wrap_u8]; omega
  have w1 : IntKind.i64.wrap (pl + 1) = pl + 1 := by rw [IntKind.wrap_i64]; omega
  obtain ⟨W1, hW1⟩ : ∃ X, W.setCell ⟨nb, 0, none⟩ (.int .i64 1) = X := ⟨_, rfl⟩
  have N1 := NX.out.set0 1
  rw [hW1] at N1
  replace N1 := Lib.hid N1
  obtain ⟨d0, d1, d2, d3, d4, d5, d6, g⟩ := N1.out
  have g0 := g 0; have g2 := g 2; have g3 := g 3
  clear g
  have OW : Hid ((W1).ownsRow B 5 1 (.slice AA ds.length kc) ds.length ((bI ds).map (Value.int .u8))) := by rw [← hW1]; exact row_setlow own (hB)
  have SZ : Hid (B ≤ (W1).heap.size) := by unfold Hid; rw [← hW1]; simpa [World.setCell] using sz
  have BI := Lib.hid (bI_app ds z (by omega) (by omega))
  have A : Hid (digS ⟨0, ng, ds, pl, ne, ex, ec⟩ z = some ⟨1, ng, ds ++ [UInt8.ofNat z.toNat], pl, ne, ex, ec⟩) := rfl
  have BW : Hid (Kp nb B W (W1)) := by unfold Hid; rw [← hW1]; exact (Kp.refl nb B W).set _ _
  have lb : ds.length + 1 ≤ 2000000000 := by omega
  clear own sz dl
  go_enter Tryd.func52, Tryd.ntmps52
  go_wp2_with (at_builtin; refine wpList_appB1 rfl _ _ rfl B _ ds.length (bI ds) z OW.out rfl rfl lb SZ.out ?_; intro v' w5 hown5 hb5; obtain ⟨A5, k5, rfl⟩ := own_slice hown5; have N5 := Lib.hid ((N1.out).on hB hb5); have O5 := Lib.hid hown5; have B5 := Lib.hid (BW.out.on hb5); have S5 : Hid (B ≤ w5.heap.size) := Nat.le_trans SZ.out hb5.size; clear hown5 hb5 c0 c1 c2 c3 c4 c5 c6 f0 f2 f3 f5 f6 d0 d1 d2 d3 d4 d5 d6 g0 g2 g3; obtain ⟨c0, c1, c2, c3, c4, c5, c6, f⟩ := N5.out; have f2 := f 2; clear f)
  try go_wp2
  go_ret
  refine TakePost.some_ A.out (B5.out.set _ _) rfl ⟨_, N5.out.set2 (.slice A5 (ds.length + 1) k5), ?_, by have := S5.out; simpa [World.setCell] using this⟩
  have h := row_setlow (b := nb) (j := 2) (u := .slice A5 (ds.length + 1) k5) O5.out (hB)
  rw [BI.out] at h
  simpa using h
set_option maxRecDepth 100000 in
set_option maxHeartbeats 8000000 in
theorem digit1 (nb B n : Nat) (hB : nb < B) (σ : NSt) (z : Int) (W : World) (hz : 48 ≤ z ∧ z ≤ 57) (hn : n ≤ 100000) (ok : NOk n σ) (h : Num W nb B σ) (hst : σ.st = 1) :
    Calls Tryd.prog 52 #[.pointer (some ⟨nb, 0, none⟩), .int .i32 z] W (TakePost nb B W (digS σ z)) := by
  obtain ⟨st, ng, ds, pl, ne, ex, ec⟩ := σ
  obtain rfl : st = 1 := hst
  obtain ⟨v, nc, own, sz⟩ := h
  obtain ⟨AA, kc, rfl⟩ := own_slice own
  obtain ⟨_, _, dl, p0, p1, cc0, cc9, ee0, ee9, ee1⟩ := ok
  dsimp only at dl p0 p1 cc0 cc9 ee0 ee9 ee1 nc own
  obtain ⟨z0, z1⟩ := hz
  have NX := Lib.hid nc
  obtain ⟨c0, c1, c2, c3, c4, c5, c6, f⟩ := nc
  have f0 := f 0; have f2 := f 2; have f3 := f 3; have f5 := f 5; have f6 := f 6
  clear f
  have cv : IntKind.u8.wrap z = z := by rw [IntKind.wrap_u8]; omega
  have w1 : IntKind.i64.wrap (pl + 1) = pl + 1 := by rw [IntKind.wrap_i64]; omega
  have OW : Hid ((W).ownsRow B 5 1 (.slice AA ds.length kc) ds.length ((bI ds).map (Value.int .u8))) := by exact own
  have SZ : Hid (B ≤ (W).heap.size) := by unfold Hid; simpa [World.setCell] using sz
  have BI := Lib.hid (bI_app ds z (by omega) (by omega))
  have A : Hid (digS ⟨1, ng, ds, pl, ne, ex, ec⟩ z = some ⟨1, ng, ds ++ [UInt8.ofNat z.toNat], pl, ne, ex, ec⟩) := rfl
  have BW : Hid (Kp nb B W (W)) := by unfold Hid; exact Kp.refl nb B W
  have lb : ds.length + 1 ≤ 2000000000 := by omega
  clear own sz dl
  go_enter Tryd.func52, Tryd.ntmps52
  go_wp2_with (at_builtin; refine wpList_appB1 rfl _ _ rfl B _ ds.length (bI ds) z OW.out rfl rfl lb SZ.out ?_; intro v' w5 hown5 hb5; obtain ⟨A5, k5, rfl⟩ := own_slice hown5; have N5 := Lib.hid ((NX.out).on hB hb5); have O5 := Lib.hid hown5; have B5 := Lib.hid (BW.out.on hb5); have S5 : Hid (B ≤ w5.heap.size) := Nat.le_trans SZ.out hb5.size; clear hown5 hb5 c0 c1 c2 c3 c4 c5 c6 f0 f2 f3 f5 f6; obtain ⟨c0, c1, c2, c3, c4, c5, c6, f⟩ := N5.out; have f2 := f 2; clear f)
  try go_wp2
  go_ret
  refine TakePost.some_ A.out (B5.out.set _ _) rfl ⟨_, N5.out.set2 (.slice A5 (ds.length + 1) k5), ?_, by have := S5.out; simpa [World.setCell] using this⟩
  have h := row_setlow (b := nb) (j := 2) (u := .slice A5 (ds.length + 1) k5) O5.out (hB)
  rw [BI.out] at h
  simpa using h
set_option maxRecDepth 100000 in
set_option maxHeartbeats 8000000 in
theorem digit2 (nb B n : Nat) (hB : nb < B) (σ : NSt) (z : Int) (W : World) (hz : 48 ≤ z ∧ z ≤ 57) (hn : n ≤ 100000) (ok : NOk n σ) (h : Num W nb B σ) (hst : σ.st = 2) :
    Calls Tryd.prog 52 #[.pointer (some ⟨nb, 0, none⟩), .int .i32 z] W (TakePost nb B W (digS σ z)) := by
  obtain ⟨st, ng, ds, pl, ne, ex, ec⟩ := σ
  obtain rfl : st = 2 := hst
  obtain ⟨v, nc, own, sz⟩ := h
  obtain ⟨AA, kc, rfl⟩ := own_slice own
  obtain ⟨_, _, dl, p0, p1, cc0, cc9, ee0, ee9, ee1⟩ := ok
  dsimp only at dl p0 p1 cc0 cc9 ee0 ee9 ee1 nc own
  obtain ⟨z0, z1⟩ := hz
  have NX := Lib.hid nc
  obtain ⟨c0, c1, c2, c3, c4, c5, c6, f⟩ := nc
  have f0 := f 0; have f2 := f 2; have f3 := f 3; have f5 := f 5; have f6 := f 6
  clear f
  have cv : IntKind.u8.wrap z = z := by rw [IntKind.wrap_u8]; omega
  have w1 : IntKind.i64.wrap (pl + 1) = pl + 1 := by rw [IntKind.wrap_i64]; omega
  obtain ⟨W1, hW1⟩ : ∃ X, W.setCell ⟨nb, 3, none⟩ (.int .i64 (pl + 1)) = X := ⟨_, rfl⟩
  have N1 := NX.out.set3 (pl + 1)
  rw [hW1] at N1
  replace N1 := Lib.hid N1
  obtain ⟨d0, d1, d2, d3, d4, d5, d6, g⟩ := N1.out
  have g0 := g 0; have g2 := g 2; have g3 := g 3
  clear g
  have OW : Hid ((W1).ownsRow B 5 1 (.slice AA ds.length kc) ds.length ((bI ds).map (Value.int .u8))) := by rw [← hW1]; exact row_setlow own (hB)
  have SZ : Hid (B ≤ (W1).heap.size) := by unfold Hid; rw [← hW1]; simpa [World.setCell] using sz
  have BI := Lib.hid (bI_app ds z (by omega) (by omega))
  have A : Hid (digS ⟨2, ng, ds, pl, ne, ex, ec⟩ z = some ⟨2, ng, ds ++ [UInt8.ofNat z.toNat], pl + 1, ne, ex, ec⟩) := rfl
  have BW : Hid (Kp nb B W (W1)) := by unfold Hid; rw [← hW1]; exact (Kp.refl nb B W).set _ _
  have lb : ds.length + 1 ≤ 2000000000 := by omega
  clear own sz dl
  go_enter Tryd.func52, Tryd.ntmps52
  go_wp2_with (at_builtin; refine wpList_appB1 rfl _ _ rfl B _ ds.length (bI ds) z OW.out rfl rfl lb SZ.out ?_; intro v' w5 hown5 hb5; obtain ⟨A5, k5, rfl⟩ := own_slice hown5; have N5 := Lib.hid ((N1.out).on hB hb5); have O5 := Lib.hid hown5; have B5 := Lib.hid (BW.out.on hb5); have S5 : Hid (B ≤ w5.heap.size) := Nat.le_trans SZ.out hb5.size; clear hown5 hb5 c0 c1 c2 c3 c4 c5 c6 f0 f2 f3 f5 f6 d0 d1 d2 d3 d4 d5 d6 g0 g2 g3; obtain ⟨c0, c1, c2, c3, c4, c5, c6, f⟩ := N5.out; have f2 := f 2; clear f)
  try go_wp2
  go_ret
  refine TakePost.some_ A.out (B5.out.set _ _) rfl ⟨_, N5.out.set2 (.slice A5 (ds.length + 1) k5), ?_, by have := S5.out; simpa [World.setCell] using this⟩
  have h := row_setlow (b := nb) (j := 2) (u := .slice A5 (ds.length + 1) k5) O5.out (hB)
  rw [BI.out] at h
  simpa using h
set_option maxRecDepth 100000 in
set_option maxHeartbeats 8000000 in
theorem digit3 (nb B n : Nat) (hB : nb < B) (σ : NSt) (z : Int) (W : World) (hz : 48 ≤ z ∧ z ≤ 57) (_hn : n ≤ 100000) (ok : NOk n σ) (h : Num W nb B σ) (hst : σ.st = 3) :
    Calls Tryd.prog 52 #[.pointer (some ⟨nb, 0, none⟩), .int .i32 z] W (TakePost nb B W (digS σ z)) := by
  obtain ⟨st, ng, ds, pl, ne, ex, ec⟩ := σ
  obtain rfl : st = 3 := hst
  obtain ⟨v, nc, own, sz⟩ := h
  obtain ⟨AA, kc, rfl⟩ := own_slice own
  obtain ⟨_, _, dl, p0, p1, cc0, cc9, ee0, ee9, ee1⟩ := ok
  dsimp only at dl p0 p1 cc0 cc9 ee0 ee9 ee1 nc own
  obtain ⟨z0, z1⟩ := hz
  have NX := Lib.hid nc
  obtain ⟨c0, c1, c2, c3, c4, c5, c6, f⟩ := nc
  have f0 := f 0; have f2 := f 2; have f3 := f 3; have f5 := f 5; have f6 := f 6
  clear f
  have x1 : IntKind.i32.wrap (z - 48) = z - 48 := by rw [IntKind.wrap_i32]; omega
  have x2 : IntKind.i64.wrap (z - 48) = z - 48 := by rw [IntKind.wrap_i64]; omega
  have x3 : IntKind.i64.wrap (ex * 10) = ex * 10 := by rw [IntKind.wrap_i64]; omega
  have x4 : IntKind.i64.wrap (ex * 10 + (z - 48)) = ex * 10 + (z - 48) := by rw [IntKind.wrap_i64]; omega
  have x5 : IntKind.i64.wrap (ec + 1) = ec + 1 := by rw [IntKind.wrap_i64]; omega
  obtain ⟨d, hd⟩ : ∃ d, z - 48 = d := ⟨_, rfl⟩
  have A0 : Hid (digS ⟨3, ng, ds, pl, ne, ex, ec⟩ z = if ec + 1 ≤ 9 then some ⟨4, ng, ds, pl, ne, ex * 10 + (z - 48), ec + 1⟩ else none) := rfl
  have OW := Lib.hid own
  have SZ := Lib.hid sz
  rw [hd] at x4 A0
  replace x1 := x1.trans hd
  rw [hd] at x2
  obtain ⟨X, hX⟩ : ∃ X, ex * 10 + d = X := ⟨_, rfl⟩
  rw [hX] at A0
  replace x4 := x4.trans hX
  clear hd hX dl own sz ee9 ee1
  by_cases h9 : ec + 1 ≤ 9
  · have A := Lib.hid (A0.out.trans (if_pos h9))
    clear A0
    go_enter Tryd.func52, Tryd.ntmps52
    go_wp2
    go_ret
    refine TakePost.some_ A.out ((((Kp.refl nb B W).set _ _).set _ _).set _ _) (by first | rfl | simp [h9]) ⟨_, ((NX.out.set0 4).set5 X).set6 (ec + 1), row_setlow (row_setlow (row_setlow OW.out (hB)) (hB)) (hB), by have := SZ.out; simpa [World.setCell] using this⟩
  · have A := Lib.hid (A0.out.trans (if_neg h9))
    clear A0
    go_enter Tryd.func52, Tryd.ntmps52
    go_wp2
    go_ret
    exact TakePost.none_ A.out ((((Kp.refl nb B W).set _ _).set _ _).set _ _) (by first | rfl | simp [h9])
set_option maxRecDepth 100000 in
set_option maxHeartbeats 8000000 in
theorem digit4 (nb B n : Nat) (hB : nb < B) (σ : NSt) (z : Int) (W : World) (hz : 48 ≤ z ∧ z ≤ 57) (_hn : n ≤ 100000) (ok : NOk n σ) (h : Num W nb B σ) (hst : σ.st = 4) :
    Calls Tryd.prog 52 #[.pointer (some ⟨nb, 0, none⟩), .int .i32 z] W (TakePost nb B W (digS σ z)) := by
  obtain ⟨st, ng, ds, pl, ne, ex, ec⟩ := σ
  obtain rfl : st = 4 := hst
  obtain ⟨v, nc, own, sz⟩ := h
  obtain ⟨AA, kc, rfl⟩ := own_slice own
  obtain ⟨_, _, dl, p0, p1, cc0, cc9, ee0, ee9, ee1⟩ := ok
  dsimp only at dl p0 p1 cc0 cc9 ee0 ee9 ee1 nc own
  obtain ⟨z0, z1⟩ := hz
  have NX := Lib.hid nc
  obtain ⟨c0, c1, c2, c3, c4, c5, c6, f⟩ := nc
  have f0 := f 0; have f2 := f 2; have f3 := f 3; have f5 := f 5; have f6 := f 6
  clear f
  have x1 : IntKind.i32.wrap (z - 48) = z - 48 := by rw [IntKind.wrap_i32]; omega
  have x2 : IntKind.i64.wrap (z - 48) = z - 48 := by rw [IntKind.wrap_i64]; omega
  have x3 : IntKind.i64.wrap (ex * 10) = ex * 10 := by rw [IntKind.wrap_i64]; omega
  have x4 : IntKind.i64.wrap (ex * 10 + (z - 48)) = ex * 10 + (z - 48) := by rw [IntKind.wrap_i64]; omega
  have x5 : IntKind.i64.wrap (ec + 1) = ec + 1 := by rw [IntKind.wrap_i64]; omega
  obtain ⟨d, hd⟩ : ∃ d, z - 48 = d := ⟨_, rfl⟩
  have A0 : Hid (digS ⟨4, ng, ds, pl, ne, ex, ec⟩ z = if ec + 1 ≤ 9 then some ⟨4, ng, ds, pl, ne, ex * 10 + (z - 48), ec + 1⟩ else none) := rfl
  have OW := Lib.hid own
  have SZ := Lib.hid sz
  rw [hd] at x4 A0
  replace x1 := x1.trans hd
  rw [hd] at x2
  obtain ⟨X, hX⟩ : ∃ X, ex * 10 + d = X := ⟨_, rfl⟩
  rw [hX] at A0
  replace x4 := x4.trans hX
  clear hd hX dl own sz ee9 ee1
  by_cases h9 : ec + 1 ≤ 9
  · have A := Lib.hid (A0.out.trans (if_pos h9))
    clear A0
    go_enter Tryd.func52, Tryd.ntmps52
    go_wp2
    go_ret
    refine TakePost.some_ A.out ((((Kp.refl nb B W).set _ _).set _ _).set _ _) (by first | rfl | simp [h9]) ⟨_, ((NX.out.set0 4).set5 X).set6 (ec + 1), row_setlow (row_setlow (row_setlow OW.out (hB)) (hB)) (hB), by have := SZ.out; simpa [World.setCell] using this⟩
  · have A := Lib.hid (A0.out.trans (if_neg h9))
    clear A0
    go_enter Tryd.func52, Tryd.ntmps52
    go_wp2
    go_ret
    exact TakePost.none_ A.out ((((Kp.refl nb B W).set _ _).set _ _).set _ _) (by first | rfl | simp [h9])
theorem digit_any (nb B n : Nat) (hB : nb < B) (σ : NSt) (z : Int) (W : World) (hz : 48 ≤ z ∧ z ≤ 57) (hn : n ≤ 100000) (ok : NOk n σ) (h : Num W nb B σ) :
    Calls Tryd.prog 52 #[.pointer (some ⟨nb, 0, none⟩), .int .i32 z] W (TakePost nb B W (digS σ z)) := by
  have a := ok.s0; have b := ok.s4
  have hs : σ.st = 0 ∨ σ.st = 1 ∨ σ.st = 2 ∨ σ.st = 3 ∨ σ.st = 4 := by omega
  rcases hs with e | e | e | e | e
  · exact digit0 nb B n hB σ z W hz hn ok h e
  · exact digit1 nb B n hB σ z W hz hn ok h e
  · exact digit2 nb B n hB σ z W hz hn ok h e
  · exact digit3 nb B n hB σ z W hz hn ok h e
  · exact digit4 nb B n hB σ z W hz hn ok h e
end Go.Proofs.YtgjhpcmpgkfnkaaDoor
