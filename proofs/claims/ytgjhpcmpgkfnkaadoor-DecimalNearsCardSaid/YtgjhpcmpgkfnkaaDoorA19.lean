/-
  Package decimal: take: walked.
-/
import Derived.Test.YtgjhpcmpgkfnkaaDoorA18
namespace Go.Proofs.YtgjhpcmpgkfnkaaDoor
open Go.RowKit Go.Shelf

set_option maxRecDepth 100000 in
set_option maxHeartbeats 8000000 in
theorem take45 (nb B n : Nat) (hB : nb < B) (σ : NSt) (W : World) (_hn : n ≤ 100000) (ok : NOk n σ) (h : Num W nb B σ) :
    Calls Tryd.prog 38 #[.pointer (some ⟨nb, 0, none⟩), .int .i32 45] W (TakePost nb B W (takeS σ 45)) := by
  have a := ok.s0; have b := ok.s4
  clear ok
  obtain ⟨st, ng, ds, pl, ne, ex, ec⟩ := σ
  obtain ⟨v, nc, own, sz⟩ := h
  dsimp only at a b nc own
  have hs : st = 0 ∨ st = 1 ∨ st = 2 ∨ st = 3 ∨ st = 4 := by omega
  clear a b
  obtain ⟨AA, kc, rfl⟩ := own_slice own
  have NX := Lib.hid nc
  have OW := Lib.hid own
  have SZ := Lib.hid sz
  obtain ⟨c0, c1, c2, c3, c4, c5, c6, f⟩ := nc
  have f0 := f 0; have f1 := f 1; have f4 := f 4
  clear f own sz
  rcases hs with rfl | rfl | rfl | rfl | rfl
  · have A : Hid (takeS ⟨0, ng, ds, pl, ne, ex, ec⟩ 45 = some ⟨1, true, ds, pl, ne, ex, ec⟩) := rfl
    go_enter Tryd.func38, Tryd.ntmps38
    go_wp2
    go_ret
    exact TakePost.some_ A.out (((Kp.refl nb B W).set _ _).set _ _) rfl ⟨_, (NX.out.set1 true).set0 1, row_setlow (row_setlow OW.out (hB)) (hB), by have := SZ.out; simpa [World.setCell] using this⟩
  · have A : Hid (takeS ⟨1, ng, ds, pl, ne, ex, ec⟩ 45 = none) := rfl
    go_enter Tryd.func38, Tryd.ntmps38
    go_wp2
    go_ret
    exact TakePost.none_ A.out (Kp.refl nb B W) rfl
  · have A : Hid (takeS ⟨2, ng, ds, pl, ne, ex, ec⟩ 45 = none) := rfl
    go_enter Tryd.func38, Tryd.ntmps38
    go_wp2
    go_ret
    exact TakePost.none_ A.out (Kp.refl nb B W) rfl
  · have A : Hid (takeS ⟨3, ng, ds, pl, ne, ex, ec⟩ 45 = some ⟨4, ng, ds, pl, true, ex, ec⟩) := rfl
    go_enter Tryd.func38, Tryd.ntmps38
    go_wp2
    go_ret
    exact TakePost.some_ A.out (((Kp.refl nb B W).set _ _).set _ _) rfl ⟨_, (NX.out.set4 true).set0 4, row_setlow (row_setlow OW.out (hB)) (hB), by have := SZ.out; simpa [World.setCell] using this⟩
  · have A : Hid (takeS ⟨4, ng, ds, pl, ne, ex, ec⟩ 45 = none) := rfl
    go_enter Tryd.func38, Tryd.ntmps38
    go_wp2
    go_ret
    exact TakePost.none_ A.out (Kp.refl nb B W) rfl
set_option maxRecDepth 100000 in
set_option maxHeartbeats 8000000 in
theorem take46 (nb B n : Nat) (hB : nb < B) (σ : NSt) (W : World) (_hn : n ≤ 100000) (ok : NOk n σ) (h : Num W nb B σ) :
    Calls Tryd.prog 38 #[.pointer (some ⟨nb, 0, none⟩), .int .i32 46] W (TakePost nb B W (takeS σ 46)) := by
  have a := ok.s0; have b := ok.s4
  clear ok
  obtain ⟨st, ng, ds, pl, ne, ex, ec⟩ := σ
  obtain ⟨v, nc, own, sz⟩ := h
  dsimp only at a b nc own
  have hs : st = 0 ∨ st = 1 ∨ st = 2 ∨ st = 3 ∨ st = 4 := by omega
  clear a b
  obtain ⟨AA, kc, rfl⟩ := own_slice own
  have NX := Lib.hid nc
  have OW := Lib.hid own
  have SZ := Lib.hid sz
  obtain ⟨c0, c1, c2, c3, c4, c5, c6, f⟩ := nc
  have f0 := f 0; have f1 := f 1; have f4 := f 4
  clear f own sz
  rcases hs with rfl | rfl | rfl | rfl | rfl
  · have A : Hid (takeS ⟨0, ng, ds, pl, ne, ex, ec⟩ 46 = some ⟨2, ng, ds, pl, ne, ex, ec⟩) := rfl
    go_enter Tryd.func38, Tryd.ntmps38
    go_wp2
    go_ret
    exact TakePost.some_ A.out ((Kp.refl nb B W).set _ _) rfl ⟨_, NX.out.set0 2, row_setlow OW.out (hB), by have := SZ.out; simpa [World.setCell] using this⟩
  · have A : Hid (takeS ⟨1, ng, ds, pl, ne, ex, ec⟩ 46 = some ⟨2, ng, ds, pl, ne, ex, ec⟩) := rfl
    go_enter Tryd.func38, Tryd.ntmps38
    go_wp2
    go_ret
    exact TakePost.some_ A.out ((Kp.refl nb B W).set _ _) rfl ⟨_, NX.out.set0 2, row_setlow OW.out (hB), by have := SZ.out; simpa [World.setCell] using this⟩
  · have A : Hid (takeS ⟨2, ng, ds, pl, ne, ex, ec⟩ 46 = none) := rfl
    go_enter Tryd.func38, Tryd.ntmps38
    go_wp2
    go_ret
    exact TakePost.none_ A.out (Kp.refl nb B W) rfl
  · have A : Hid (takeS ⟨3, ng, ds, pl, ne, ex, ec⟩ 46 = none) := rfl
    go_enter Tryd.func38, Tryd.ntmps38
    go_wp2
    go_ret
    exact TakePost.none_ A.out (Kp.refl nb B W) rfl
  · have A : Hid (takeS ⟨4, ng, ds, pl, ne, ex, ec⟩ 46 = none) := rfl
    go_enter Tryd.func38, Tryd.ntmps38
    go_wp2
    go_ret
    exact TakePost.none_ A.out (Kp.refl nb B W) rfl
set_option maxRecDepth 100000 in
set_option maxHeartbeats 8000000 in
theorem take101 (nb B n : Nat) (hB : nb < B) (σ : NSt) (W : World) (_hn : n ≤ 100000) (ok : NOk n σ) (h : Num W nb B σ) :
    Calls Tryd.prog 38 #[.pointer (some ⟨nb, 0, none⟩), .int .i32 101] W (TakePost nb B W (takeS σ 101)) := by
  have a := ok.s0; have b := ok.s4
  clear ok
  obtain ⟨st, ng, ds, pl, ne, ex, ec⟩ := σ
  obtain ⟨v, nc, own, sz⟩ := h
  dsimp only at a b nc own
  have hs : st = 0 ∨ st = 1 ∨ st = 2 ∨ st = 3 ∨ st = 4 := by omega
  clear a b
  obtain ⟨AA, kc, rfl⟩ := own_slice own
  have NX := Lib.hid nc
  have OW := Lib.hid own
  have SZ := Lib.hid sz
  obtain ⟨c0, c1, c2, c3, c4, c5, c6, f⟩ := nc
  have f0 := f 0; have f1 := f 1; have f4 := f 4
  clear f own sz
  rcases hs with rfl | rfl | rfl | rfl | rfl
  · have A : Hid (takeS ⟨0, ng, ds, pl, ne, ex, ec⟩ 101 = some ⟨3, ng, ds, pl, ne, ex, ec⟩) := rfl
    go_enter Tryd.func38, Tryd.ntmps38
    go_wp2
    go_ret
    exact TakePost.some_ A.out ((Kp.refl nb B W).set _ _) rfl ⟨_, NX.out.set0 3, row_setlow OW.out (hB), by have := SZ.out; simpa [World.setCell] using this⟩
  · have A : Hid (takeS ⟨1, ng, ds, pl, ne, ex, ec⟩ 101 = some ⟨3, ng, ds, pl, ne, ex, ec⟩) := rfl
    go_enter Tryd.func38, Tryd.ntmps38
    go_wp2
    go_ret
    exact TakePost.some_ A.out ((Kp.refl nb B W).set _ _) rfl ⟨_, NX.out.set0 3, row_setlow OW.out (hB), by have := SZ.out; simpa [World.setCell] using this⟩
  · have A : Hid (takeS ⟨2, ng, ds, pl, ne, ex, ec⟩ 101 = some ⟨3, ng, ds, pl, ne, ex, ec⟩) := rfl
    go_enter Tryd.func38, Tryd.ntmps38
    go_wp2
    go_ret
    exact TakePost.some_ A.out ((Kp.refl nb B W).set _ _) rfl ⟨_, NX.out.set0 3, row_setlow OW.out (hB), by have := SZ.out; simpa [World.setCell] using this⟩
  · have A : Hid (takeS ⟨3, ng, ds, pl, ne, ex, ec⟩ 101 = none) := rfl
    go_enter Tryd.func38, Tryd.ntmps38
    go_wp2
    go_ret
    exact TakePost.none_ A.out (Kp.refl nb B W) rfl
  · have A : Hid (takeS ⟨4, ng, ds, pl, ne, ex, ec⟩ 101 = none) := rfl
    go_enter Tryd.func38, Tryd.ntmps38
    go_wp2
    go_ret
    exact TakePost.none_ A.out (Kp.refl nb B W) rfl
set_option maxRecDepth 100000 in
set_option maxHeartbeats 8000000 in
theorem take69 (nb B n : Nat) (hB : nb < B) (σ : NSt) (W : World) (_hn : n ≤ 100000) (ok : NOk n σ) (h : Num W nb B σ) :
    Calls Tryd.prog 38 #[.pointer (some ⟨nb, 0, none⟩), .int .i32 69] W (TakePost nb B W (takeS σ 69)) := by
  have a := ok.s0; have b := ok.s4
  clear ok
  obtain ⟨st, ng, ds, pl, ne, ex, ec⟩ := σ
  obtain ⟨v, nc, own, sz⟩ := h
  dsimp only at a b nc own
  have hs : st = 0 ∨ st = 1 ∨ st = 2 ∨ st = 3 ∨ st = 4 := by omega
  clear a b
  obtain ⟨AA, kc, rfl⟩ := own_slice own
  have NX := Lib.hid nc
  have OW := Lib.hid own
  have SZ := Lib.hid sz
  obtain ⟨c0, c1, c2, c3, c4, c5, c6, f⟩ := nc
  have f0 := f 0; have f1 := f 1; have f4 := f 4
  clear f own sz
  rcases hs with rfl | rfl | rfl | rfl | rfl
  · have A : Hid (takeS ⟨0, ng, ds, pl, ne, ex, ec⟩ 69 = some ⟨3, ng, ds, pl, ne, ex, ec⟩) := rfl
    go_enter Tryd.func38, Tryd.ntmps38
    go_wp2
    go_ret
    exact TakePost.some_ A.out ((Kp.refl nb B W).set _ _) rfl ⟨_, NX.out.set0 3, row_setlow OW.out (hB), by have := SZ.out; simpa [World.setCell] using this⟩
  · have A : Hid (takeS ⟨1, ng, ds, pl, ne, ex, ec⟩ 69 = some ⟨3, ng, ds, pl, ne, ex, ec⟩) := rfl
    go_enter Tryd.func38, Tryd.ntmps38
    go_wp2
    go_ret
    exact TakePost.some_ A.out ((Kp.refl nb B W).set _ _) rfl ⟨_, NX.out.set0 3, row_setlow OW.out (hB), by have := SZ.out; simpa [World.setCell] using this⟩
  · have A : Hid (takeS ⟨2, ng, ds, pl, ne, ex, ec⟩ 69 = some ⟨3, ng, ds, pl, ne, ex, ec⟩) := rfl
    go_enter Tryd.func38, Tryd.ntmps38
    go_wp2
    go_ret
    exact TakePost.some_ A.out ((Kp.refl nb B W).set _ _) rfl ⟨_, NX.out.set0 3, row_setlow OW.out (hB), by have := SZ.out; simpa [World.setCell] using this⟩
  · have A : Hid (takeS ⟨3, ng, ds, pl, ne, ex, ec⟩ 69 = none) := rfl
    go_enter Tryd.func38, Tryd.ntmps38
    go_wp2
    go_ret
    exact TakePost.none_ A.out (Kp.refl nb B W) rfl
  · have A : Hid (takeS ⟨4, ng, ds, pl, ne, ex, ec⟩ 69 = none) := rfl
    go_enter Tryd.func38, Tryd.ntmps38
    go_wp2
    go_ret
    exact TakePost.none_ A.out (Kp.refl nb B W) rfl
set_option maxRecDepth 100000 in
set_option maxHeartbeats 8000000 in
theorem take43 (nb B n : Nat) (hB : nb < B) (σ : NSt) (W : World) (_hn : n ≤ 100000) (ok : NOk n σ) (h : Num W nb B σ) :
    Calls Tryd.prog 38 #[.pointer (some ⟨nb, 0, none⟩), .int .i32 43] W (TakePost nb B W (takeS σ 43)) := by
  have a := ok.s0; have b := ok.s4
  clear ok
  obtain ⟨st, ng, ds, pl, ne, ex, ec⟩ := σ
  obtain ⟨v, nc, own, sz⟩ := h
  dsimp only at a b nc own
  have hs : st = 0 ∨ st = 1 ∨ st = 2 ∨ st = 3 ∨ st = 4 := by omega
  clear a b
  obtain ⟨AA, kc, rfl⟩ := own_slice own
  have NX := Lib.hid nc
  have OW := Lib.hid own
  have SZ := Lib.hid sz
  obtain ⟨c0, c1, c2, c3, c4, c5, c6, f⟩ := nc
  have f0 := f 0; have f1 := f 1; have f4 := f 4
  clear f own sz
  rcases hs with rfl | rfl | rfl | rfl | rfl
  · have A : Hid (takeS ⟨0, ng, ds, pl, ne, ex, ec⟩ 43 = none) := rfl
    go_enter Tryd.func38, Tryd.ntmps38
    go_wp2
    go_ret
    exact TakePost.none_ A.out (Kp.refl nb B W) rfl
  · have A : Hid (takeS ⟨1, ng, ds, pl, ne, ex, ec⟩ 43 = none) := rfl
    go_enter Tryd.func38, Tryd.ntmps38
    go_wp2
    go_ret
    exact TakePost.none_ A.out (Kp.refl nb B W) rfl
  · have A : Hid (takeS ⟨2, ng, ds, pl, ne, ex, ec⟩ 43 = none) := rfl
    go_enter Tryd.func38, Tryd.ntmps38
    go_wp2
    go_ret
    exact TakePost.none_ A.out (Kp.refl nb B W) rfl
  · have A : Hid (takeS ⟨3, ng, ds, pl, ne, ex, ec⟩ 43 = some ⟨4, ng, ds, pl, false, ex, ec⟩) := rfl
    go_enter Tryd.func38, Tryd.ntmps38
    go_wp2
    go_ret
    exact TakePost.some_ A.out (((Kp.refl nb B W).set _ _).set _ _) rfl ⟨_, (NX.out.set4 false).set0 4, row_setlow (row_setlow OW.out (hB)) (hB), by have := SZ.out; simpa [World.setCell] using this⟩
  · have A : Hid (takeS ⟨4, ng, ds, pl, ne, ex, ec⟩ 43 = none) := rfl
    go_enter Tryd.func38, Tryd.ntmps38
    go_wp2
    go_ret
    exact TakePost.none_ A.out (Kp.refl nb B W) rfl
set_option maxRecDepth 100000 in
set_option maxHeartbeats 8000000 in
theorem take_dig (nb B n : Nat) (hB : nb < B) (σ : NSt) (z : Int) (W : World) (hz : 48 ≤ z ∧ z ≤ 57) (hn : n ≤ 100000) (ok : NOk n σ) (h : Num W nb B σ) :
    Calls Tryd.prog 38 #[.pointer (some ⟨nb, 0, none⟩), .int .i32 z] W (TakePost nb B W (takeS σ z)) := by
  have DG := Lib.hid (digit_any nb B n hB σ z W hz hn ok h)
  have A : Hid (takeS σ z = digS σ z) := if_pos hz
  obtain ⟨z0, z1⟩ := hz
  have SR : ∃ r, digS σ z = r := ⟨_, rfl⟩
  obtain ⟨r, hr⟩ := SR
  rw [hr] at A DG
  obtain ⟨T, hT⟩ : ∃ T, takeS σ z = T := ⟨_, rfl⟩
  rw [hT] at A ⊢
  clear hr hT h ok
  go_enter Tryd.func38, Tryd.ntmps38
  go_wp2_with fail
  refine DG.out.mono ?_
  rintro e w2 hp
  cases r with
  | some σ' =>
    obtain ⟨hb, rfl, hN⟩ := hp
    have HB := Lib.hid hb; have HN := Lib.hid hN
    clear hb hN
    go_wp2
    go_ret
    exact TakePost.some_ A.out HB.out rfl HN.out
  | none =>
    obtain ⟨hb, rfl⟩ := hp
    have HB := Lib.hid hb
    clear hb
    go_wp2
    go_ret
    exact TakePost.none_ A.out HB.out rfl
set_option maxRecDepth 100000 in
set_option maxHeartbeats 8000000 in
theorem take_no (nb B n : Nat) (_hB : nb < B) (σ : NSt) (z : Int) (W : World) (h1 : ¬ (48 ≤ z ∧ z ≤ 57)) (h2 : z ≠ 45) (h3 : z ≠ 46) (h4 : z ≠ 101) (h5 : z ≠ 69) (h6 : z ≠ 43) (_hn : n ≤ 100000) (_ok : NOk n σ) (_h : Num W nb B σ) :
    Calls Tryd.prog 38 #[.pointer (some ⟨nb, 0, none⟩), .int .i32 z] W (TakePost nb B W (takeS σ z)) := by
  have A : Hid (takeS σ z = none) := by
    unfold Hid takeS
    rw [if_neg h1, if_neg (fun e => h2 e.1), if_neg (fun e => h3 e.1), if_neg (fun e => e.1.elim h4 h5), if_neg (fun e => e.1.elim h6 h2)]
  obtain ⟨T, hT⟩ : ∃ T, takeS σ z = T := ⟨_, rfl⟩
  rw [hT] at A ⊢
  clear hT _h _ok
  have b2 : (z == 45) = false := beq_eq_false_iff_ne.2 h2
  have b3 : (z == 46) = false := beq_eq_false_iff_ne.2 h3
  have b4 : (z == 101) = false := beq_eq_false_iff_ne.2 h4
  have b5 : (z == 69) = false := beq_eq_false_iff_ne.2 h5
  have b6 : (z == 43) = false := beq_eq_false_iff_ne.2 h6
  by_cases h7 : 48 ≤ z
  · have h8 : ¬ z ≤ 57 := by omega
    have b8 : decide (z ≤ 57) = false := decide_eq_false h8
    clear h1
    go_enter Tryd.func38, Tryd.ntmps38
    go_wp2
    go_ret
    exact TakePost.none_ A.out (Kp.refl nb B W) rfl
  · have b7 : decide (48 ≤ z) = false := decide_eq_false h7
    clear h1
    go_enter Tryd.func38, Tryd.ntmps38
    go_wp2
    go_ret
    exact TakePost.none_ A.out (Kp.refl nb B W) rfl
theorem take_any (nb B n : Nat) (hB : nb < B) (σ : NSt) (z : Int) (W : World) (hn : n ≤ 100000) (ok : NOk n σ) (h : Num W nb B σ) :
    Calls Tryd.prog 38 #[.pointer (some ⟨nb, 0, none⟩), .int .i32 z] W (TakePost nb B W (takeS σ z)) := by
  by_cases h1 : 48 ≤ z ∧ z ≤ 57
  · exact take_dig nb B n hB σ z W h1 hn ok h
  by_cases h2 : z = 45
  · subst h2; exact take45 nb B n hB σ W hn ok h
  by_cases h3 : z = 46
  · subst h3; exact take46 nb B n hB σ W hn ok h
  by_cases h4 : z = 101
  · subst h4; exact take101 nb B n hB σ W hn ok h
  by_cases h5 : z = 69
  · subst h5; exact take69 nb B n hB σ W hn ok h
  by_cases h6 : z = 43
  · subst h6; exact take43 nb B n hB σ W hn ok h
  exact take_no nb B n hB σ z W h1 h2 h3 h4 h5 h6 hn ok h
/-- One byte more. -/
theorem NOk.take {n : Nat} {σ σ' : NSt} {z : Int} (ok : NOk n σ) (h : takeS σ z = some σ') : NOk (n + 1) σ' := by
  obtain ⟨s0, s4, dl, p0, p1, c0, c9, e0, e9, e1⟩ := ok
  obtain ⟨st, ng, ds, pl, ne, ex, ec⟩ := σ
  dsimp only at *
  unfold takeS at h
  split at h
  · rename_i hz
    unfold digS at h
    dsimp only at h
    split at h
    · cases h; exact ⟨by simp, by simp, by simp; omega, p0, by show pl ≤ _; omega, c0, c9, e0, e9, e1⟩
    split at h
    · rename_i hs; cases h; exact ⟨s0, s4, by simp; omega, by show 0 ≤ pl + 1; omega, by show pl + 1 ≤ _; omega, c0, c9, e0, e9, e1⟩
    split at h
    · split at h
      · cases h
        rename_i h9
        have en : (ec + 1).toNat = ec.toNat + 1 := by omega
        have lt : ex * 10 + (z - 48) < 10 ^ (ec + 1).toNat := by
          rw [en, Int.pow_succ]; omega
        have le : (10 : Int) ^ (ec + 1).toNat ≤ 10 ^ 9 := by
          have : (ec + 1).toNat ≤ 9 := by omega
          exact_mod_cast Nat.pow_le_pow_right (by decide) this
        exact ⟨by simp, by simp, by show ds.length ≤ _; omega, p0, by show pl ≤ _; omega, by show 0 ≤ ec + 1; omega, h9, by show 0 ≤ ex * 10 + (z - 48); omega, by show ex * 10 + (z - 48) ≤ _; omega, lt⟩
      · cases h
    · cases h; exact ⟨s0, s4, by simp; omega, p0, by show pl ≤ _; omega, c0, c9, e0, e9, e1⟩
  split at h
  · cases h; exact ⟨by simp, by simp, by show ds.length ≤ _; omega, p0, by show pl ≤ _; omega, c0, c9, e0, e9, e1⟩
  split at h
  · cases h; exact ⟨by simp, by simp, by show ds.length ≤ _; omega, p0, by show pl ≤ _; omega, c0, c9, e0, e9, e1⟩
  split at h
  · cases h; exact ⟨by simp, by simp, by show ds.length ≤ _; omega, p0, by show pl ≤ _; omega, c0, c9, e0, e9, e1⟩
  split at h
  · cases h; exact ⟨by simp, by simp, by show ds.length ≤ _; omega, p0, by show pl ≤ _; omega, c0, c9, e0, e9, e1⟩
  · cases h
end Go.Proofs.YtgjhpcmpgkfnkaaDoor
