/-
  The document's Mul; the statement ArithMuls, walked.
-/
import Derived.Test.YthclnopdmmibiaaDoorM2
namespace Go.Proofs.YthclnopdmmibiaaDoor
open Go.RowKit Go.Shelf

/-- Mul's answer at finite numbers. -/
theorem mul_finite {a b : Int} (h1 : Word a) (h2 : Word b) (ka : kindI a < 3) (kb : kindI b < 3) : mulV a b = rndI (negB a != negB b) (mantI a * mantI b) (powI a + powI b) := by
  unfold mulV mulK
  rw [if_neg (by omega), if_neg (by omega)]
  by_cases z : kindI a = 0 ∨ kindI b = 0
  · rw [if_pos z]
    have e : mantI a * mantI b = 0 := by
      rcases z with z | z
      · rw [(mant_zero a h1 (fin_of_kind h1 ka)).2 (kind_zero.1 z), Int.zero_mul]
      · rw [(mant_zero b h2 (fin_of_kind h2 kb)).2 (kind_zero.1 z), Int.mul_zero]
    rw [e, rnd_zero]
  · rw [if_neg z]

set_option maxRecDepth 100000 in
set_option maxHeartbeats 8000000 in
theorem rmul_any (a b : Int) (h1 : Word a) (h2 : Word b) (w : World) : Calls Tryd.prog 12 #[.int .u64 a, .int .u64 b] w (WordPost (mulV a b) w) := by
  obtain ⟨k, hk⟩ : ∃ z, kindI a = z := ⟨_, rfl⟩
  obtain ⟨j, hj⟩ : ∃ z, kindI b = z := ⟨_, rfl⟩
  have bk := kind_bd a
  have bj := kind_bd b
  rw [hk] at bk; rw [hj] at bj
  have KA := Lib.hid (fun W => rkind_vars a k h1 hk W)
  have KB := Lib.hid (fun W => rkind_vars b j h2 hj W)
  have HK := Lib.hid hk; have HJ := Lib.hid hj
  have H1 := Lib.hid h1; have H2 := Lib.hid h2
  obtain ⟨r, hr⟩ : ∃ z, mulV a b = z := ⟨_, rfl⟩
  have AV : Hid (mulK k j a b = r) := by rw [← hr]; unfold Hid mulV; rw [hk, hj]
  have HR := Lib.hid hr
  have IA := Lib.hid (fun W => ris_any a W)
  have IB := Lib.hid (fun W => ris_any b W)
  have SA := Lib.hid (fun W => rsplit_any a h1 W)
  have SB := Lib.hid (fun W => rsplit_any b h2 W)
  have BA := Lib.hid (mant_bd a h1)
  have BB := Lib.hid (mant_bd b h2)
  obtain ⟨na, hna⟩ : ∃ z, negB a = z := ⟨_, rfl⟩
  obtain ⟨nb, hnb⟩ : ∃ z, negB b = z := ⟨_, rfl⟩
  have HNA := Lib.hid hna; have HNB := Lib.hid hnb
  obtain ⟨ng, hng⟩ : ∃ z, (na != nb) = z := ⟨_, rfl⟩
  have HNG := Lib.hid hng
  rw [hr]
  rw [hna] at IA SA
  rw [hnb] at IB SB
  have HN2 : Hid ((!(na == nb)) = ng) := by unfold Hid; rw [← hng]; rfl
  clear hk hj h1 h2 hr hna hnb hng
  have NG : Hid ((negB a != negB b) = ng) := by unfold Hid; rw [HNA.out, HNB.out, HNG.out]
  by_cases cn : k = 4 ∨ j = 4 ∨ (k = 3 ∧ j = 0) ∨ (k = 0 ∧ j = 3)
  · have fin : Hid (r = 9221120237041090560) := by unfold Hid; rw [← AV.out]; unfold mulK; rw [if_pos cn]
    clear AV HR SA SB BA BB HK HJ
    rcases cn with c | c | c | c
    · have t1 : (k == 4) = true := by simpa using c
      have c := Lib.hid c
      go_enter Tryd.func12, Tryd.ntmps12
      go_wp2_with (first | (go_at_call_of 17 (Value.int IntKind.u64 a); refine (KA.out _).mono ?_; rintro e w' ⟨rfl, rfl⟩) | (go_at_call_of 17 (Value.int IntKind.u64 b); refine (KB.out _).mono ?_; rintro e w' ⟨rfl, rfl⟩) | (go_at_call_of 19 (Value.int IntKind.u64 a); refine (IA.out _).mono ?_; rintro e w' ⟨rfl, rfl⟩) | (go_at_call_of 19 (Value.int IntKind.u64 b); refine (IB.out _).mono ?_; rintro e w' ⟨rfl, rfl⟩))
      go_ret
      exact ⟨by rw [fin.out]; rfl, Below.refl _ _⟩
    · by_cases k4 : k = 4
      · have t1 : (k == 4) = true := by simpa using k4
        have c := Lib.hid c; have k4 := Lib.hid k4
        go_enter Tryd.func12, Tryd.ntmps12
        go_wp2_with (first | (go_at_call_of 17 (Value.int IntKind.u64 a); refine (KA.out _).mono ?_; rintro e w' ⟨rfl, rfl⟩) | (go_at_call_of 17 (Value.int IntKind.u64 b); refine (KB.out _).mono ?_; rintro e w' ⟨rfl, rfl⟩) | (go_at_call_of 19 (Value.int IntKind.u64 a); refine (IA.out _).mono ?_; rintro e w' ⟨rfl, rfl⟩) | (go_at_call_of 19 (Value.int IntKind.u64 b); refine (IB.out _).mono ?_; rintro e w' ⟨rfl, rfl⟩))
        go_ret
        exact ⟨by rw [fin.out]; rfl, Below.refl _ _⟩
      · have t1 : (k == 4) = false := by simpa using k4
        have t2 : (j == 4) = true := by simpa using c
        have c := Lib.hid c; have k4 := Lib.hid k4
        go_enter Tryd.func12, Tryd.ntmps12
        go_wp2_with (first | (go_at_call_of 17 (Value.int IntKind.u64 a); refine (KA.out _).mono ?_; rintro e w' ⟨rfl, rfl⟩) | (go_at_call_of 17 (Value.int IntKind.u64 b); refine (KB.out _).mono ?_; rintro e w' ⟨rfl, rfl⟩) | (go_at_call_of 19 (Value.int IntKind.u64 a); refine (IA.out _).mono ?_; rintro e w' ⟨rfl, rfl⟩) | (go_at_call_of 19 (Value.int IntKind.u64 b); refine (IB.out _).mono ?_; rintro e w' ⟨rfl, rfl⟩))
        go_ret
        exact ⟨by rw [fin.out]; rfl, Below.refl _ _⟩
    · obtain ⟨rfl, rfl⟩ := c
      go_enter Tryd.func12, Tryd.ntmps12
      go_wp2_with (first | (go_at_call_of 17 (Value.int IntKind.u64 a); refine (KA.out _).mono ?_; rintro e w' ⟨rfl, rfl⟩) | (go_at_call_of 17 (Value.int IntKind.u64 b); refine (KB.out _).mono ?_; rintro e w' ⟨rfl, rfl⟩) | (go_at_call_of 19 (Value.int IntKind.u64 a); refine (IA.out _).mono ?_; rintro e w' ⟨rfl, rfl⟩) | (go_at_call_of 19 (Value.int IntKind.u64 b); refine (IB.out _).mono ?_; rintro e w' ⟨rfl, rfl⟩))
      go_ret
      exact ⟨by rw [fin.out]; rfl, Below.refl _ _⟩
    · obtain ⟨rfl, rfl⟩ := c
      go_enter Tryd.func12, Tryd.ntmps12
      go_wp2_with (first | (go_at_call_of 17 (Value.int IntKind.u64 a); refine (KA.out _).mono ?_; rintro e w' ⟨rfl, rfl⟩) | (go_at_call_of 17 (Value.int IntKind.u64 b); refine (KB.out _).mono ?_; rintro e w' ⟨rfl, rfl⟩) | (go_at_call_of 19 (Value.int IntKind.u64 a); refine (IA.out _).mono ?_; rintro e w' ⟨rfl, rfl⟩) | (go_at_call_of 19 (Value.int IntKind.u64 b); refine (IB.out _).mono ?_; rintro e w' ⟨rfl, rfl⟩))
      go_ret
      exact ⟨by rw [fin.out]; rfl, Below.refl _ _⟩
  have t1 : (k == 4) = false := by simp; omega
  have t2 : (j == 4) = false := by simp; omega
  by_cases ci : k = 3 ∨ j = 3
  · have fin : Hid (r = signI ng + 9218868437227405312) := by unfold Hid; rw [← AV.out]; unfold mulK; rw [if_neg cn, if_pos ci, NG.out]
    have sb : 0 ≤ signI ng ∧ signI ng ≤ 9223372036854775808 := by unfold signI; split <;> decide
    obtain ⟨sb0, sb1⟩ := sb
    have ZC := Lib.hid (fun W => zero_any ng W)
    generalize signI ng = sg at *
    clear AV HR SA SB BA BB HK HJ
    by_cases k3 : k = 3
    · have t3 : (k == 3) = true := by simpa using k3
      have t4 : (j == 0) = false := by simp; omega
      have t5 : (k == 0) = false := by simp; omega
      have k3 := Lib.hid k3; have ci := Lib.hid ci; have cn := Lib.hid cn
      go_enter Tryd.func12, Tryd.ntmps12
      go_wp2_with (first | (go_at_call_of 17 (Value.int IntKind.u64 a); refine (KA.out _).mono ?_; rintro e w' ⟨rfl, rfl⟩) | (go_at_call_of 17 (Value.int IntKind.u64 b); refine (KB.out _).mono ?_; rintro e w' ⟨rfl, rfl⟩) | (go_at_call_of 19 (Value.int IntKind.u64 a); refine (IA.out _).mono ?_; rintro e w' ⟨rfl, rfl⟩) | (go_at_call_of 19 (Value.int IntKind.u64 b); refine (IB.out _).mono ?_; rintro e w' ⟨rfl, rfl⟩) | (go_at_call 18; rw [HN2.out]; refine (ZC.out _).mono ?_; rintro e w' ⟨rfl, rfl⟩))
      go_ret
      exact ⟨by rw [fin.out]; rfl, Below.refl _ _⟩
    · have t3 : (k == 3) = false := by simpa using k3
      have t4 : (j == 3) = true := by simp; omega
      have t5 : (k == 0) = false := by simp; omega
      have k3 := Lib.hid k3; have ci := Lib.hid ci; have cn := Lib.hid cn
      go_enter Tryd.func12, Tryd.ntmps12
      go_wp2_with (first | (go_at_call_of 17 (Value.int IntKind.u64 a); refine (KA.out _).mono ?_; rintro e w' ⟨rfl, rfl⟩) | (go_at_call_of 17 (Value.int IntKind.u64 b); refine (KB.out _).mono ?_; rintro e w' ⟨rfl, rfl⟩) | (go_at_call_of 19 (Value.int IntKind.u64 a); refine (IA.out _).mono ?_; rintro e w' ⟨rfl, rfl⟩) | (go_at_call_of 19 (Value.int IntKind.u64 b); refine (IB.out _).mono ?_; rintro e w' ⟨rfl, rfl⟩) | (go_at_call 18; rw [HN2.out]; refine (ZC.out _).mono ?_; rintro e w' ⟨rfl, rfl⟩))
      go_ret
      exact ⟨by rw [fin.out]; rfl, Below.refl _ _⟩
  have t3 : (k == 3) = false := by simp; omega
  have t4 : (j == 3) = false := by simp; omega
  have fin : Hid (r = rndI ng (mantI a * mantI b) (powI a + powI b)) := by unfold Hid; rw [← HR.out, mul_finite H1.out H2.out (by rw [HK.out]; omega) (by rw [HJ.out]; omega), NG.out]
  have cn := Lib.hid cn; have ci := Lib.hid ci
  obtain ⟨ma0, ma1, pa0, pa1⟩ := BA.out
  obtain ⟨mb0, mb1, pb0, pb1⟩ := BB.out
  generalize mantI a = ma at *
  generalize mantI b = mb at *
  generalize powI a = pa at *
  generalize powI b = pb at *
  have NA := Lib.hid (fun W => nat3_any ma ⟨ma0, by omega⟩ W)
  have NB := Lib.hid (fun W => nat3_any mb ⟨mb0, by omega⟩ W)
  clear AV HR HK HJ BA BB
  obtain ⟨z0, t5⟩ : ∃ z, (k == 0) = z := ⟨_, rfl⟩
  cases z0
  all_goals
    go_enter Tryd.func12, Tryd.ntmps12
    go_wp2_with fail
    refine (KA.out _).mono ?_
    rintro e w' ⟨rfl, rfl⟩
    go_wp2_with fail
    refine (KB.out _).mono ?_
    rintro e w' ⟨rfl, rfl⟩
    go_wp2_with fail
    refine (IA.out _).mono ?_
    rintro e w' ⟨rfl, rfl⟩
    go_wp2_with fail
    refine (IB.out _).mono ?_
    rintro e w' ⟨rfl, rfl⟩
    go_wp2_with fail
    rw [HN2.out]
    refine (SA.out _).mono ?_
    rintro e w' ⟨rfl, rfl⟩
    go_wp2_with fail
    refine (SB.out _).mono ?_
    rintro e w' ⟨rfl, rfl⟩
    go_wp2_with fail
    refine (NA.out _).mono ?_
    rintro e w1 ⟨A1, n1, c1, l1, rfl, hs1, hn1, hv1, _, hb1⟩
    have n1b : n1 ≤ 8 := hs1.small hn1 (by rw [hv1]; omega)
    have hv1 := Lib.hid hv1
    clear hn1
    go_wp2_with fail
    refine (NB.out _).mono ?_
    rintro e w2 ⟨A2, n2, c2, l2, rfl, hs2, hn2, hv2, _, hb2⟩
    have n2b : n2 ≤ 8 := hs2.small hn2 (by rw [hv2]; omega)
    have hv2 := Lib.hid hv2
    have hs1 := hs1.on hb2
    have hB2 := hb1.trans (hb2.mono hb1.size)
    clear hn2 hb1 hb2
    go_wp2_with fail
    refine (rtimes_any A1 A2 n1 n2 c1 c2 l1 l2 _ hs1 hs2 (by omega) (by omega)).mono ?_
    rintro e w3 ⟨A3, n3, c3, l3, rfl, hs3, hn3, hv3, _, hb3⟩
    have hv3 : Hid (natV l3 = ma * mb) := by unfold Hid; rw [hv3, hv1.out, hv2.out]
    have n3b : n3 ≤ 8 := hs3.small hn3 (by
      rw [hv3.out]
      have := Int.mul_le_mul (show ma ≤ 9007199254740992 by omega) (show mb ≤ 9007199254740992 by omega) mb0 (by decide)
      omega)
    have hB3 := hB2.trans (hb3.mono hB2.size)
    have CR := Lib.hid (rround_len ng A3 n3 c3 l3 (pa + pb) w3 hs3 (by omega) (by omega) (by omega) hv3.out fin.out.symm)
    clear hs1 hs2 hs3 hn3 hb3 hB2
    go_wp2_with fail
    refine CR.out.mono ?_
    rintro e w4 ⟨rfl, hb4⟩
    have hB4 := hB3.trans (hb4.mono hB3.size)
    go_wp2
    go_ret
    exact ⟨rfl, hB4⟩

set_option maxRecDepth 100000 in
set_option maxHeartbeats 2000000 in
theorem mulsl_any (a b : Int) (h1 : Word a) (h2 : Word b) (w : World) (hT : Tabs w) : Calls Tryd.prog 4 #[.int .u64 a, .int .u64 b] w (TruePost w) := by
  obtain ⟨p, hp⟩ : ∃ z, mulV a b = z := ⟨_, rfl⟩
  have C1 := Lib.hid (fun W (hW : Below w.heap.size w W) => times_any a b h1 h2 W (hT.below hW))
  have C2 := Lib.hid (fun W => rmul_any a b h1 h2 W)
  rw [hp] at C1 C2
  have HT := Lib.hid hT
  clear hp h1 h2 hT
  go_enter Tryd.func4, Tryd.ntmps4
  go_wp2_with fail
  refine (shown4_any _ HT.out).mono ?_
  rintro e w1 ⟨rfl, hb1⟩
  go_wp2_with fail
  refine (C1.out _ hb1).mono ?_
  rintro e w2 ⟨rfl, hb2⟩
  have hB2 := hb1.trans (hb2.mono hb1.size)
  go_wp2_with fail
  refine (C2.out _).mono ?_
  rintro e w3 ⟨rfl, hb3⟩
  have hB3 := hB2.trans (hb3.mono hB2.size)
  go_wp2
  go_ret
  exact ⟨by simp, hB3⟩
end Go.Proofs.YthclnopdmmibiaaDoor
