/-
  The document's remainder: walked.
-/
import Derived.Test.YtnefacnceemklaaDoorX8
import Derived.Test.YtnefacnceemklaaDoorK11a
import Derived.Test.YtnefacnceemklaaDoorX5
namespace Go.Proofs.YtnefacnceemklaaDoor
open Go.RowKit Go.Shelf

set_option maxRecDepth 100000 in
set_option maxHeartbeats 8000000 in
theorem rmod_odd (a b : Int) (h1 : Word a) (h2 : Word b) (ho : ¬ ((kindI a = 1 ∨ kindI a = 2) ∧ (kindI b = 1 ∨ kindI b = 2))) (w : World) : Calls Tryd.prog 21 #[.int .u64 a, .int .u64 b] w (WordPost (modV a b) w) := by
  obtain ⟨k, hk⟩ : ∃ z, kindI a = z := ⟨_, rfl⟩
  obtain ⟨j, hj⟩ : ∃ z, kindI b = z := ⟨_, rfl⟩
  have bk := kind_bd a
  have bj := kind_bd b
  rw [hk] at bk; rw [hj] at bj
  have NA := Lib.hid (fun W => none5 a k h1 hk W)
  have NB := Lib.hid (fun W => none5 b j h2 hj W)
  have EA := Lib.hid (fun W => endless5 a k h1 hk W)
  have EB := Lib.hid (fun W => endless5 b j h2 hj W)
  have ZA := Lib.hid (fun W => zero5 a k h1 hk W)
  have ZB := Lib.hid (fun W => zero5 b j h2 hj W)
  rw [hk, hj] at ho
  have V : Hid (modV a b = if k = 4 ∨ j = 4 ∨ k = 3 ∨ j = 0 then 9221120237041090560 else if k = 0 ∨ j = 3 then a else rndI (negB a) (XI a % XI b) (-1074)) := by unfold Hid modV; rw [hk, hj]
  generalize modV a b = v at *
  generalize rndI (negB a) (XI a % XI b) (-1074) = q at *
  clear h1 h2 hk hj
  have ck : k = 0 ∨ k = 1 ∨ k = 2 ∨ k = 3 ∨ k = 4 := by omega
  have cj : j = 0 ∨ j = 1 ∨ j = 2 ∨ j = 3 ∨ j = 4 := by omega
  clear bk bj
  rcases ck with rfl | rfl | rfl | rfl | rfl <;> rcases cj with rfl | rfl | rfl | rfl | rfl
  all_goals first
    | (exact absurd ⟨by decide, by decide⟩ ho)
    | (clear ho
       simp at V
       go_enter Tryd.func21, Tryd.ntmps21
       go_wp2_with (first | (go_at_call_of 39 (Value.int IntKind.u64 a); refine (NA.out _).mono ?_; rintro e w' ⟨rfl, rfl⟩) | (go_at_call_of 40 (Value.int IntKind.u64 a); refine (EA.out _).mono ?_; rintro e w' ⟨rfl, rfl⟩) | (go_at_call_of 41 (Value.int IntKind.u64 a); refine (ZA.out _).mono ?_; rintro e w' ⟨rfl, rfl⟩) | (go_at_call_of 39 (Value.int IntKind.u64 b); refine (NB.out _).mono ?_; rintro e w' ⟨rfl, rfl⟩) | (go_at_call_of 40 (Value.int IntKind.u64 b); refine (EB.out _).mono ?_; rintro e w' ⟨rfl, rfl⟩) | (go_at_call_of 41 (Value.int IntKind.u64 b); refine (ZB.out _).mono ?_; rintro e w' ⟨rfl, rfl⟩))
       go_ret
       exact ⟨by rw [V.out]; rfl, Below.refl _ _⟩)
theorem mod_units2 {a b : Int} (h1 : Word a) (h2 : Word b) (hz : mantI b ≠ 0) (he : powI a < powI b) : rndI (negB a) (mantI a % (mantI b * pw (powI b - powI a))) (powI a) = rndI (negB a) (XI a % XI b) (-1074) := by
  obtain ⟨a0, a1, p0, p1⟩ := mant_bd a h1
  obtain ⟨b0, b1, q0, q1⟩ := mant_bd b h2
  have p := pw_pos (powI a + 1074)
  have q := pw_pos (powI b - powI a)
  have X : 0 < mantI b * pw (powI b - powI a) := Int.mul_pos (by omega) q
  have e : XI a % XI b = mantI a % (mantI b * pw (powI b - powI a)) * pw (powI a + 1074) := by
    unfold XI
    have k : pw (powI b + 1074) = pw (powI b - powI a) * pw (powI a + 1074) := by rw [← pw_add _ _ (by omega) (by omega)]; congr 1; omega
    rw [k, ← Int.mul_assoc, Int.mul_comm _ (pw (powI a + 1074)), Int.mul_comm (mantI b * _) (pw (powI a + 1074)), Int.mul_emod_mul_of_pos _ _ p, Int.mul_comm]
  rw [e, rnd_scale _ (-1074) (Int.emod_nonneg _ (by omega)) (by omega)]
  congr 1; omega
set_option maxRecDepth 100000 in
set_option maxHeartbeats 8000000 in
theorem rmod_low (a b : Int) (h1 : Word a) (h2 : Word b) (ka : kindI a = 1 ∨ kindI a = 2) (kb : kindI b = 1 ∨ kindI b = 2) (he : powI a < powI b) (w : World) : Calls Tryd.prog 21 #[.int .u64 a, .int .u64 b] w (WordPost (modV a b) w) := by
  obtain ⟨k, hk⟩ : ∃ z, kindI a = z := ⟨_, rfl⟩
  obtain ⟨j, hj⟩ : ∃ z, kindI b = z := ⟨_, rfl⟩
  have bk := kind_bd a
  have bj := kind_bd b
  rw [hk] at bk; rw [hj] at bj
  have NA := Lib.hid (fun W => none5 a k h1 hk W)
  have NB := Lib.hid (fun W => none5 b j h2 hj W)
  have EA := Lib.hid (fun W => endless5 a k h1 hk W)
  have EB := Lib.hid (fun W => endless5 b j h2 hj W)
  have ZA := Lib.hid (fun W => zero5 a k h1 hk W)
  have ZB := Lib.hid (fun W => zero5 b j h2 hj W)
  have SA := Lib.hid (fun W => rsplit_any a h1 W)
  have SB := Lib.hid (fun W => rsplit_any b h2 W)
  obtain ⟨a0, a1, p0, p1⟩ := mant_bd a h1
  obtain ⟨b0, b1, q0, q1⟩ := mant_bd b h2
  have mz : mantI b ≠ 0 := fun e => nz_of_kind h2 (by omega) (by omega) ((mant_zero b h2 (fin_of_kind h2 (by omega))).1 e)
  have V : Hid (modV a b = rndI (negB a) (XI a % XI b) (-1074)) := by
    unfold Hid modV; rw [if_neg (by omega), if_neg (by omega)]
  have t1 : (k == 4) = false := by simp; omega
  have t2 : (j == 4) = false := by simp; omega
  have t3 : (k == 3) = false := by simp; omega
  have t4 : (j == 3) = false := by simp; omega
  have t5 : (k == 0) = false := by simp; omega
  have t6 : (j == 0) = false := by simp; omega
  have MU := mod_units2 h1 h2 mz he
  rw [← V.out] at MU
  clear h1 h2 hk hj V bk bj ka kb
  generalize modV a b = v at *
  generalize negB a = na at *
  generalize mantI a = ma at *
  generalize mantI b = mb at *
  generalize powI a = pa at *
  generalize powI b = pb at *
  have NM := Lib.hid (fun W => nat3_any ma ⟨a0, by omega⟩ W)
  have NN := Lib.hid (fun W => nat3_any mb ⟨b0, by omega⟩ W)
  have XB : Hid (mb * pw (pb - pa) < pw (32 * ((66 : Nat) : Int))) := by
    have x := pw_mono (a := pb - pa) (b := 2045) (by omega) (by omega)
    have y : mb * pw (pb - pa) ≤ mb * pw 2045 := Int.mul_le_mul_of_nonneg_left x b0
    have z : (mb + 1) * pw 2045 ≤ 9007199254740992 * pw 2045 := Int.mul_le_mul_of_nonneg_right (by omega) (Int.le_of_lt (pw_pos _))
    have e : pw 2098 = 9007199254740992 * pw 2045 := by rw [show pw 2098 = pw 53 * pw 2045 by rw [← pw_add 53 2045 (by decide) (by decide)]; rfl]; rfl
    have g := pw_mono (a := 2098) (b := 32 * ((66 : Nat) : Int)) (by decide) (by decide)
    have p := pw_pos 2045
    rw [Int.add_mul] at z
    unfold Hid; omega
  have X0 : Hid (0 < mb * pw (pb - pa)) := Int.mul_pos (by omega) (pw_pos _)
  obtain ⟨d, hd⟩ : ∃ d, pb - pa = d := ⟨_, rfl⟩
  rw [hd] at MU XB X0
  have d0 : 0 ≤ d := by omega
  have d1 : d ≤ 5000 := by omega
  obtain ⟨X, hX⟩ : ∃ X, mb * pw d = X := ⟨_, rfl⟩
  have HX := Lib.hid hX
  rw [hX] at MU XB X0
  have R0 : Hid (0 ≤ ma % X ∧ ma % X < 9007199254740992) := by
    have := Int.emod_nonneg ma (show X ≠ 0 by have := X0.out; omega)
    have e := Int.emod_def ma X
    have := Int.mul_nonneg (show 0 ≤ X by have := X0.out; omega) (Int.ediv_nonneg a0 (show 0 ≤ X by have := X0.out; omega))
    unfold Hid; omega
  have LT := Lib.hid (fun (c : ma < X) => Int.emod_eq_of_lt a0 c)
  obtain ⟨R, hR⟩ : ∃ R, ma % X = R := ⟨_, rfl⟩
  rw [hR] at R0 MU LT
  have HR := Lib.hid hR
  have MU := Lib.hid MU
  clear hR hX mz
  go_enter Tryd.func21, Tryd.ntmps21
  go_wp2_with fail
  refine (NA.out _).mono ?_
  rintro e w' ⟨rfl, rfl⟩
  go_wp2_with fail
  refine (NB.out _).mono ?_
  rintro e w' ⟨rfl, rfl⟩
  go_wp2_with fail
  refine (EA.out _).mono ?_
  rintro e w' ⟨rfl, rfl⟩
  go_wp2_with fail
  refine (ZB.out _).mono ?_
  rintro e w' ⟨rfl, rfl⟩
  go_wp2_with fail
  refine (ZA.out _).mono ?_
  rintro e w' ⟨rfl, rfl⟩
  go_wp2_with fail
  refine (EB.out _).mono ?_
  rintro e w' ⟨rfl, rfl⟩
  go_wp2_with fail
  refine (SA.out _).mono ?_
  rintro e w' ⟨rfl, rfl⟩
  go_wp2_with fail
  refine (SB.out _).mono ?_
  rintro e w' ⟨rfl, rfl⟩
  clear NA NB EA EB ZA ZB SA SB
  go_wp2_with fail
  refine (NN.out _).mono ?_
  rintro e w1 ⟨A1, n1, c1, l1, rfl, hs1, hn1, hv1, _, hb1⟩
  have n1b : n1 ≤ 8 := hs1.small hn1 (by rw [hv1]; omega)
  have CU := Lib.hid (rup_any A1 n1 c1 l1 d w1 hs1 (by omega) (by omega) (by omega))
  rw [hv1, HX.out] at CU
  clear hn1 NN hs1 hv1
  go_wp2_with fail
  try rw [hd]
  refine CU.out.mono ?_
  rintro e w2 ⟨A2, n2, c2, l2, rfl, hs2, hn2, hv2, _, hb2⟩
  have n2b : n2 ≤ 66 := by
    rw [← hs2.len]
    exact norm_len hs2.lim hn2 (k := 66) (by rw [hv2]; exact XB.out)
  have hB2 := hb1.trans (hb2.mono hb1.size)
  clear CU hn2 hb1 hb2 XB
  go_wp2_with fail
  refine (NM.out _).mono ?_
  rintro e w3 ⟨A3, n3, c3, l3, rfl, hs3, hn3, hv3, _, hb3⟩
  have n3b : n3 ≤ 8 := hs3.small hn3 (by rw [hv3]; omega)
  have hs2 := hs2.on hb3
  have hB3 := hB2.trans (hb3.mono hB2.size)
  clear hn3 NM hb3 hB2
  have CC := Lib.hid (rcmp_any A3 A2 n3 n2 c3 c2 l3 l2 w3 hs3 hs2 (by omega) (by omega))
  rw [hv3, hv2] at CC
  by_cases g : ma < X
  · have RE := LT.out g
    have cv : Hid (cmpI ma X = -1) := by unfold Hid cmpI; rw [if_pos g]
    have RR := Lib.hid (fun W (hb : Below w3.heap.size w3 W) => rround_len na A3 n3 c3 l3 pa W (hs3.on hb) (by omega) (by omega) (by omega) (hv3.trans RE.symm) MU.out)
    clear LT hs2 hs3 hv2 hv3 RE g
    go_wp2_with fail
    refine CC.out.mono ?_
    rintro e w4 ⟨rfl, hb4⟩
    rw [cv.out]
    replace RR := Lib.hid (RR.out w4 hb4)
    have hB4 := hB3.trans (hb4.mono hB3.size)
    clear CC
    go_wp2_with fail
    refine RR.out.mono ?_
    rintro e w5 ⟨rfl, hb5⟩
    have hB5 := hB4.trans (hb5.mono hB4.size)
    go_wp2
    go_ret
    exact ⟨rfl, hB5⟩
  · obtain ⟨r, r0, cv⟩ : ∃ r, 0 ≤ r ∧ cmpI ma X = r := by
      refine ⟨_, ?_, rfl⟩
      unfold cmpI; rw [if_neg g]; split <;> decide
    have cv := Lib.hid cv
    have PP := Lib.hid (fun W (hb : Below w3.heap.size w3 W) => rparts_any A3 A2 n3 n2 c3 c2 l3 l2 W (hs3.on hb) (hs2.on hb) (by omega) (by omega) (by rw [hv2]; exact X0.out))
    rw [hv3, hv2, HR.out] at PP
    clear LT hs2 hs3 hv2 hv3 g
    go_wp2_with fail
    refine CC.out.mono ?_
    rintro e w4 ⟨rfl, hb4⟩
    rw [cv.out]
    replace PP := Lib.hid (PP.out w4 hb4)
    have hB4 := hB3.trans (hb4.mono hB3.size)
    clear CC hb4
    go_wp2_with fail
    refine PP.out.mono ?_
    rintro e w5 ⟨A4, n4, c4, l4, A5, n5, c5, l5, rfl, hs4, hn4, hv4, hs5, hn5, hv5, hb5⟩
    have n5b : n5 ≤ 8 := hs5.small hn5 (by rw [hv5]; have := R0.out; omega)
    have hB5 := hB4.trans (hb5.mono hB4.size)
    have RR := Lib.hid (rround_len na A5 n5 c5 l5 pa w5 hs5 (by omega) (by omega) (by omega) hv5 MU.out)
    clear hs4 hn4 hv4 hs5 hn5 hv5 hb5 PP
    go_wp2_with fail
    refine RR.out.mono ?_
    rintro e w6 ⟨rfl, hb6⟩
    have hB6 := hB5.trans (hb6.mono hB5.size)
    go_wp2
    go_ret
    exact ⟨rfl, hB6⟩
theorem rem_twice {m b r : Int} {i : Nat} (h : RemAt m b i r) : RemAt m b (i + 1) (2 * r % b) := by
  obtain ⟨h0, h1, h2⟩ := h
  have hb : 0 < b := by omega
  refine ⟨Int.emod_nonneg _ (by omega), Int.emod_lt_of_pos _ hb, ?_⟩
  rw [show ((i + 1 : Nat) : Int) = (i : Int) + 1 by omega, pw_add _ _ (by omega) (by decide), ← Int.mul_assoc]
  exact dbl_mod h2
set_option maxRecDepth 100000 in
set_option maxHeartbeats 8000000 in
theorem rmod_high (a b : Int) (h1 : Word a) (h2 : Word b) (ka : kindI a = 1 ∨ kindI a = 2) (kb : kindI b = 1 ∨ kindI b = 2) (he : powI b ≤ powI a) (w : World) : Calls Tryd.prog 21 #[.int .u64 a, .int .u64 b] w (WordPost (modV a b) w) := by
  obtain ⟨k, hk⟩ : ∃ z, kindI a = z := ⟨_, rfl⟩
  obtain ⟨j, hj⟩ : ∃ z, kindI b = z := ⟨_, rfl⟩
  have bk := kind_bd a
  have bj := kind_bd b
  rw [hk] at bk; rw [hj] at bj
  have NA := Lib.hid (fun W => none5 a k h1 hk W)
  have NB := Lib.hid (fun W => none5 b j h2 hj W)
  have EA := Lib.hid (fun W => endless5 a k h1 hk W)
  have EB := Lib.hid (fun W => endless5 b j h2 hj W)
  have ZA := Lib.hid (fun W => zero5 a k h1 hk W)
  have ZB := Lib.hid (fun W => zero5 b j h2 hj W)
  have SA := Lib.hid (fun W => rsplit_any a h1 W)
  have SB := Lib.hid (fun W => rsplit_any b h2 W)
  obtain ⟨a0, a1, p0, p1⟩ := mant_bd a h1
  obtain ⟨b0, b1, q0, q1⟩ := mant_bd b h2
  have mz : mantI b ≠ 0 := fun e => nz_of_kind h2 (by omega) (by omega) ((mant_zero b h2 (fin_of_kind h2 (by omega))).1 e)
  have V : Hid (modV a b = rndI (negB a) (XI a % XI b) (-1074)) := by
    unfold Hid modV; rw [if_neg (by omega), if_neg (by omega)]
  have t1 : (k == 4) = false := by simp; omega
  have t2 : (j == 4) = false := by simp; omega
  have t3 : (k == 3) = false := by simp; omega
  have t4 : (j == 3) = false := by simp; omega
  have t5 : (k == 0) = false := by simp; omega
  have t6 : (j == 0) = false := by simp; omega
  have MU := mod_units h1 h2 mz he
  rw [← V.out] at MU
  clear h1 h2 hk hj V bk bj ka kb
  generalize modV a b = v at *
  generalize negB a = na at *
  generalize mantI a = ma at *
  generalize mantI b = mb at *
  generalize powI a = pa at *
  generalize powI b = pb at *
  obtain ⟨D, hD⟩ : ∃ D : Nat, pa - pb = (D : Int) := ⟨(pa - pb).toNat, by omega⟩
  rw [hD] at MU
  have D1 : D ≤ 5000 := by omega
  have st0 : Hid (RemAt ma mb 0 (ma % mb)) := ⟨Int.emod_nonneg _ mz, Int.emod_lt_of_pos _ (by omega), by rw [show pw ((0 : Nat) : Int) = 1 from rfl, Int.mul_one]⟩
  have NX := Lib.hid (fun i r => @rem_twice ma mb r i)
  obtain ⟨R, hR⟩ : ∃ R, ma * pw (D : Int) % mb = R := ⟨_, rfl⟩
  have HR := Lib.hid hR
  rw [hR] at MU
  have R0 : 0 ≤ R := by rw [← hR]; exact Int.emod_nonneg _ mz
  have R1 : R < 9007199254740992 := by have := Int.emod_lt_of_pos (ma * pw (D : Int)) (show 0 < mb by omega); omega
  have MU := Lib.hid MU
  have NR := Lib.hid (fun W => nat3_any R ⟨R0, by omega⟩ W)
  have mb0 : 0 < mb := by omega
  have hmb : (mb == 0) = false := by simp; omega
  clear hR
  go_enter Tryd.func21, Tryd.ntmps21
  go_wp2_with fail
  refine (NA.out _).mono ?_
  rintro e w' ⟨rfl, rfl⟩
  go_wp2_with fail
  refine (NB.out _).mono ?_
  rintro e w' ⟨rfl, rfl⟩
  go_wp2_with fail
  refine (EA.out _).mono ?_
  rintro e w' ⟨rfl, rfl⟩
  go_wp2_with fail
  refine (ZB.out _).mono ?_
  rintro e w' ⟨rfl, rfl⟩
  go_wp2_with fail
  refine (ZA.out _).mono ?_
  rintro e w' ⟨rfl, rfl⟩
  go_wp2_with fail
  refine (EB.out _).mono ?_
  rintro e w' ⟨rfl, rfl⟩
  go_wp2_with fail
  refine (SA.out _).mono ?_
  rintro e w' ⟨rfl, rfl⟩
  go_wp2_with fail
  refine (SB.out _).mono ?_
  rintro e w' ⟨rfl, rfl⟩
  clear NA NB EA EB ZA ZB SA SB t1 t2 t3 t4 t5 t6
  go_wp2
  go_loopw [14, 15] (fun v ii wr => ∃ i : Nat, ∃ r : Int, ii = .int .i64 (i : Int) ∧ v = .int .u64 r ∧ i ≤ D ∧ RemAt ma mb i r ∧ w = wr) (fun _ ii _ => D - (intOf ii).toNat)
  case atStart => exact ⟨0, _, rfl, rfl, by omega, st0.out, rfl⟩
  case round =>
    obtain ⟨i, r, rfl, rfl, hi, hM, rfl⟩ := hrel
    by_cases c : i < D
    · have c' : (i : Int) < pa - pb := by omega
      have r0 := hM.r0; have r1 := hM.r1
      have N := Lib.hid (NX.out i r hM)
      have ws : IntKind.u64.wrap (2 * r) = 2 * r := by rw [IntKind.wrap_u64]; omega
      clear st0 NX hM MU NR HR
      go_wp2
      go_roundw
      case rel => exact ⟨i + 1, 2 * r % mb, by go_num, by first | rfl | simp, by omega, N.out, by first | trivial | rfl⟩
      case measure => simp [intOf]; omega
    · obtain rfl : i = D := by omega
      have hge : ¬ (i : Int) < pa - pb := by omega
      obtain rfl : r = R := by rw [← HR.out]; exact hM.v.symm
      clear st0 NX hM
      go_wp2_with fail
      refine (NR.out _).mono ?_
      rintro e w1 ⟨A1, n1, c1, l1, rfl, hs1, hn1, hv1, _, hb1⟩
      have n1b : n1 ≤ 8 := hs1.small hn1 (by rw [hv1]; omega)
      have RR := Lib.hid (rround_len na A1 n1 c1 l1 pb w1 hs1 (by omega) (by omega) (by omega) hv1 MU.out)
      clear NR hs1 hn1 hv1
      go_wp2_with fail
      refine RR.out.mono ?_
      rintro e w2 ⟨rfl, hb2⟩
      have hB2 := hb1.trans (hb2.mono hb1.size)
      go_wp2
      go_ret
      exact ⟨rfl, hB2⟩
theorem rmod5_any (a b : Int) (h1 : Word a) (h2 : Word b) (w : World) : Calls Tryd.prog 21 #[.int .u64 a, .int .u64 b] w (WordPost (modV a b) w) := by
  by_cases o : (kindI a = 1 ∨ kindI a = 2) ∧ (kindI b = 1 ∨ kindI b = 2)
  · by_cases e : powI a < powI b
    · exact rmod_low a b h1 h2 o.1 o.2 e w
    · exact rmod_high a b h1 h2 o.1 o.2 (by omega) w
  · exact rmod_odd a b h1 h2 o w
end Go.Proofs.YtnefacnceemklaaDoor
