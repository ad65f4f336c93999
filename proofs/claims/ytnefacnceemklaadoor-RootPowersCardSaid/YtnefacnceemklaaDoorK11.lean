/-
  The document's quotient: walked.
-/
import Derived.Test.YtnefacnceemklaaDoorK4
import Derived.Test.YtnefacnceemklaaDoorK11a
namespace Go.Proofs.YtnefacnceemklaaDoor
open Go.RowKit Go.Shelf

set_option maxRecDepth 100000 in
set_option maxHeartbeats 8000000 in
theorem rdiv5_any (a b : Int) (h1 : Word a) (h2 : Word b) (w : World) : Calls Tryd.prog 15 #[.int .u64 a, .int .u64 b] w (WordPost (divV a b) w) := by
  obtain ⟨k, hk⟩ : ∃ z, kindI a = z := ⟨_, rfl⟩
  obtain ⟨j, hj⟩ : ∃ z, kindI b = z := ⟨_, rfl⟩
  have bk := kind_bd a
  have bj := kind_bd b
  rw [hk] at bk; rw [hj] at bj
  have NA := Lib.hid (fun W => none5 a k h1 hk W)
  have NB := Lib.hid (fun W => none5 b j h2 hj W)
  have EA := Lib.hid (fun W => endless5 a k h1 hk W)
  have EB := Lib.hid (fun W => endless5 b j h2 hj W)
  have ZA := Lib.hid (fun W => zero5 a k h1 hk W)
  have ZB := Lib.hid (fun W => zero5 b j h2 hj W)
  have IA := Lib.hid (fun W => ris_any a W)
  have IB := Lib.hid (fun W => ris_any b W)
  have MZ := Lib.hid (fun c : j < 3 ∧ j ≠ 0 => show mantI b ≠ 0 from fun e => nz_of_kind h2 (by omega) (by omega) ((mant_zero b h2 (fin_of_kind h2 (by omega))).1 e))
  have V : Hid (divV a b = divK k j (negB a != negB b) (quoV (negB a != negB b) (mantI a) (powI a) (mantI b) (powI b))) := by unfold Hid divV; rw [hk, hj]
  obtain ⟨na, hna⟩ : ∃ z, negB a = z := ⟨_, rfl⟩
  obtain ⟨nb, hnb⟩ : ∃ z, negB b = z := ⟨_, rfl⟩
  have SA := Lib.hid (fun W => rsplit_any a h1 W)
  have SB := Lib.hid (fun W => rsplit_any b h2 W)
  rw [hna] at IA SA; rw [hnb] at IB SB
  rw [hna, hnb] at V
  obtain ⟨s, hs⟩ : ∃ z, (na != nb) = z := ⟨_, rfl⟩
  rw [hs] at V
  have hs2 : (!(na == nb)) = s := by rw [← hs]; rfl
  obtain ⟨a0, a1, p0, p1⟩ := mant_bd a h1
  obtain ⟨b0, b1, q0, q1⟩ := mant_bd b h2
  have WI := Lib.hid (fun W => with_inf s W)
  have WZ := Lib.hid (fun W => with_zero s W)
  generalize divV a b = v at *
  clear h1 h2 hk hj hna hnb
  by_cases fin : (k = 1 ∨ k = 2) ∧ (j = 1 ∨ j = 2)
  · have mz := MZ.out (by omega)
    have fv : Hid (v = quoV s (mantI a) (powI a) (mantI b) (powI b)) := by unfold Hid; rw [V.out]; unfold divK; rw [if_neg (by omega), if_neg (by omega), if_neg (by omega)]
    unfold quoV at fv
    generalize mantI a = ma at *
    generalize mantI b = mb at *
    generalize powI a = pa at *
    generalize powI b = pb at *
    have NC := Lib.hid (fun W => nat3_any ma ⟨a0, by omega⟩ W)
    have ND := Lib.hid (fun W => nat3_any mb ⟨b0, by omega⟩ W)
    have mb0 : 0 < mb := by omega
    have up : Hid (ma * pw 128 < 115792089237316195423570985008687907853269984665640564039457584007913129639936) := by unfold Hid; rw [show pw 128 = 340282366920938463463374607431768211456 from rfl]; omega
    have up0 : Hid (0 ≤ ma * pw 128) := Int.mul_nonneg a0 (Int.le_of_lt (pw_pos _))
    obtain ⟨Q, hQ⟩ : ∃ z, ma * pw 128 / mb = z := ⟨_, rfl⟩
    obtain ⟨r, hr⟩ : ∃ z, ma * pw 128 % mb = z := ⟨_, rfl⟩
    have Q1 : Hid (Q < 115792089237316195423570985008687907853269984665640564039457584007913129639936) := by
      unfold Hid; rw [← hQ]
      have := Int.ediv_le_self mb up0.out
      have := up.out; omega
    have HQ := Lib.hid hQ; have HR := Lib.hid hr
    rw [hQ, hr] at fv
    clear MZ V mz hQ hr WI WZ hs
    have t1 : (k == 4) = false := by simp; omega
    have t2 : (j == 4) = false := by simp; omega
    have t3 : (k == 3) = false := by simp; omega
    have t4 : (j == 3) = false := by simp; omega
    have t5 : (k == 0) = false := by simp; omega
    have t6 : (j == 0) = false := by simp; omega
    clear fin
    go_enter Tryd.func15, Tryd.ntmps15
    go_wp2_with fail
    refine (IA.out _).mono ?_
    rintro e w' ⟨rfl, rfl⟩
    go_wp2_with fail
    refine (IB.out _).mono ?_
    rintro e w' ⟨rfl, rfl⟩
    go_wp2_with fail
    refine (NA.out _).mono ?_
    rintro e w' ⟨rfl, rfl⟩
    go_wp2_with fail
    refine (NB.out _).mono ?_
    rintro e w' ⟨rfl, rfl⟩
    go_wp2_with fail
    refine (EA.out _).mono ?_
    rintro e w' ⟨rfl, rfl⟩
    go_wp2_with fail
    refine (ZA.out _).mono ?_
    rintro e w' ⟨rfl, rfl⟩
    go_wp2_with fail
    refine (EA.out _).mono ?_
    rintro e w' ⟨rfl, rfl⟩
    go_wp2_with fail
    refine (ZB.out _).mono ?_
    rintro e w' ⟨rfl, rfl⟩
    go_wp2_with fail
    refine (ZA.out _).mono ?_
    rintro e w' ⟨rfl, rfl⟩
    go_wp2_with fail
    refine (EB.out _).mono ?_
    rintro e w' ⟨rfl, rfl⟩
    go_wp2_with fail
    refine (SA.out _).mono ?_
    rintro e w' ⟨rfl, rfl⟩
    go_wp2_with fail
    refine (SB.out _).mono ?_
    rintro e w' ⟨rfl, rfl⟩
    go_wp2_with fail
    refine (NC.out _).mono ?_
    rintro e w1 ⟨A1, n1, c1, l1, rfl, hs1, hn1, hv1, _, hb1⟩
    have n1b : n1 ≤ 8 := hs1.small hn1 (by rw [hv1]; omega)
    have CU := Lib.hid (rup_any A1 n1 c1 l1 128 w1 hs1 (by omega) (by decide) (by decide))
    rw [hv1] at CU
    clear hs1 hn1 hv1
    go_wp2_with fail
    refine CU.out.mono ?_
    rintro e w2 ⟨A2, n2, c2, l2, rfl, hs2, hn2, hv2, _, hb2⟩
    have n2b : n2 ≤ 8 := hs2.small hn2 (by rw [hv2]; exact up.out)
    have hs2 := Lib.hid hs2
    have hv2 := Lib.hid hv2
    have hB2 := hb1.trans (hb2.mono hb1.size)
    clear hn2 hb1 hb2 CU
    go_wp2_with fail
    refine (ND.out _).mono ?_
    rintro e w3 ⟨A3, n3, c3, l3, rfl, hs3, hn3, hv3, _, hb3⟩
    have n3b : n3 ≤ 8 := hs3.small hn3 (by rw [hv3]; omega)
    have hB3 := hB2.trans (hb3.mono hB2.size)
    have CP := Lib.hid (rparts_any A2 A3 n2 n3 c2 c3 l2 l3 w3 (hs2.out.on hb3) hs3 (by omega) (by omega) (by rw [hv3]; exact mb0))
    rw [hv2.out, hv3, HQ.out, HR.out] at CP
    clear hs3 hn3 hv3 hb3 hB2 hs2 hv2
    go_wp2_with fail
    refine CP.out.mono ?_
    rintro e w4 ⟨A4, n4, c4, l4, A5, n5, c5, l5, rfl, hs4, hn4, hv4, hs5, hn5, hv5, hb4⟩
    have n4b : n4 ≤ 8 := hs4.small hn4 (by rw [hv4]; exact Q1.out)
    have hB4 := hB3.trans (hb4.mono hB3.size)
    have lp := len_pos hs5 hn5 hv5
    have CR := Lib.hid (rround_more s (r != 0) A4 n4 c4 l4 (pa - pb - 128) w4 hs4 (by omega) (by omega) (by omega) hv4 fv.out.symm)
    clear hs4 hn4 hv4 hs5 hn5 hv5 hb4 hB3 CP
    go_wp2_with fail
    refine CR.out.mono ?_
    rintro e w5 ⟨rfl, hb5⟩
    have hB5 := hB4.trans (hb5.mono hB4.size)
    go_wp2
    go_ret
    exact ⟨rfl, hB5⟩
  · have ck : k = 0 ∨ k = 1 ∨ k = 2 ∨ k = 3 ∨ k = 4 := by omega
    have cj : j = 0 ∨ j = 1 ∨ j = 2 ∨ j = 3 ∨ j = 4 := by omega
    clear MZ bk bj hs
    rcases ck with rfl | rfl | rfl | rfl | rfl <;> rcases cj with rfl | rfl | rfl | rfl | rfl
    all_goals first
      | (exact absurd ⟨by decide, by decide⟩ fin)
      | (clear fin
         unfold divK at V
         simp at V
         go_enter Tryd.func15, Tryd.ntmps15
         go_wp2_with (first | (go_at_call_of 39 (Value.int IntKind.u64 a); refine (NA.out _).mono ?_; rintro e w' ⟨rfl, rfl⟩) | (go_at_call_of 40 (Value.int IntKind.u64 a); refine (EA.out _).mono ?_; rintro e w' ⟨rfl, rfl⟩) | (go_at_call_of 41 (Value.int IntKind.u64 a); refine (ZA.out _).mono ?_; rintro e w' ⟨rfl, rfl⟩) | (go_at_call_of 38 (Value.int IntKind.u64 a); refine (IA.out _).mono ?_; rintro e w' ⟨rfl, rfl⟩) | (go_at_call_of 39 (Value.int IntKind.u64 b); refine (NB.out _).mono ?_; rintro e w' ⟨rfl, rfl⟩) | (go_at_call_of 40 (Value.int IntKind.u64 b); refine (EB.out _).mono ?_; rintro e w' ⟨rfl, rfl⟩) | (go_at_call_of 41 (Value.int IntKind.u64 b); refine (ZB.out _).mono ?_; rintro e w' ⟨rfl, rfl⟩) | (go_at_call_of 38 (Value.int IntKind.u64 b); refine (IB.out _).mono ?_; rintro e w' ⟨rfl, rfl⟩) | (go_at_call_of 42 (Value.int IntKind.u64 9218868437227405312); refine (WI.out _).mono ?_; rintro e w' ⟨rfl, rfl⟩) | (go_at_call_of 42 (Value.int IntKind.u64 0); refine (WZ.out _).mono ?_; rintro e w' ⟨rfl, rfl⟩))
         go_ret
         exact ⟨by rw [V.out]; rfl, Below.refl _ _⟩)
end Go.Proofs.YtnefacnceemklaaDoor
