/-
  The document's Sqrt: walked.
-/
import Derived.Test.YtnefacnceemklaaDoorK12
import Derived.Test.YtnefacnceemklaaDoorX5
import Derived.Test.YtnefacnceemklaaDoorK11a
namespace Go.Proofs.YtnefacnceemklaaDoor
open Go.RowKit Go.Shelf

theorem tmod_two (p : Int) : p.tmod 2 = 0 ↔ p % 2 = 0 :=
  ⟨fun h => Int.emod_eq_zero_of_dvd (Int.dvd_of_tmod_eq_zero h), fun h => Int.tmod_eq_zero_of_dvd (Int.dvd_of_emod_eq_zero h)⟩
theorem sqN_bd {a : Int} (h : Word a) : 0 ≤ mantI a * pw (sqK a) ∧ mantI a * pw (sqK a) < pw 190 := by
  obtain ⟨m0, m1, _, _⟩ := mant_bd a h
  have kk : sqK a ≤ 129 := by unfold sqK; split <;> decide
  have k0 : 0 ≤ sqK a := by unfold sqK; split <;> decide
  have p := pw_mono (a := sqK a) (b := 129) (by omega) kk
  have q := Int.mul_le_mul (show mantI a ≤ pw 53 by rw [show pw 53 = 9007199254740992 from rfl]; omega) p (Int.le_of_lt (pw_pos _)) (Int.le_of_lt (pw_pos _))
  rw [← pw_add _ _ (by decide) (by decide), show (53 : Int) + 129 = 182 by decide] at q
  have := pw_mono (a := 182) (b := 189) (by decide) (by decide)
  have a2 := pw_half 190 (by decide)
  have := pw_pos 189
  rw [show (190 : Int) - 1 = 189 by decide] at a2
  exact ⟨Int.mul_nonneg m0 (Int.le_of_lt (pw_pos _)), by omega⟩
set_option maxRecDepth 100000 in
set_option maxHeartbeats 4000000 in
theorem rsqrt5_any (a : Int) (h : Word a) (w : World) : Calls Tryd.prog 17 #[.int .u64 a] w (WordPost (sqrtV a) w) := by
  obtain ⟨k, hk⟩ : ∃ z, kindI a = z := ⟨_, rfl⟩
  have bk := kind_bd a
  rw [hk] at bk
  have NA := Lib.hid (fun W => none5 a k h hk W)
  have EA := Lib.hid (fun W => endless5 a k h hk W)
  have ZA := Lib.hid (fun W => zero5 a k h hk W)
  have V : Hid (sqrtV a = if k = 4 then 9221120237041090560 else if k = 0 ∨ a = 9218868437227405312 then a else if 9223372036854775808 < a then 9221120237041090560 else sqF a) := by unfold Hid sqrtV; rw [hk]
  have K3 : Hid (k = 3 → a = 9218868437227405312 ∨ 9223372036854775808 < a) := fun c => by
    have z := h.1; have z1 := h.2
    rw [← hk] at c; unfold kindI absI at c; (repeat' split at c) <;> omega
  have KI : Hid (a = 9218868437227405312 → k = 3) := fun c => by rw [← hk, c]; decide
  have K0 : Hid (k = 0 → a = 0 ∨ a = 9223372036854775808) := fun c => zero_val h (by rw [hk]; exact c)
  have h0 := h.1; have h1 := h.2
  have SA := Lib.hid (fun W => rsplit_any a h W)
  obtain ⟨m0, m1, p0, p1⟩ := mant_bd a h
  have NC := Lib.hid (fun W => nat3_any (mantI a) ⟨m0, by omega⟩ W)
  obtain ⟨N0, N1⟩ := sqN_bd h
  have RT := Lib.hid (sqR_root N0 (by have := pw_mono (a := 190) (b := 256) (by decide) (by decide); omega))
  have SF : Hid (sqF a = joinV false (sqR (mantI a * pw (sqK a))) ((powI a - sqK a) / 2) (blen (sqR (mantI a * pw (sqK a)))) (sqR (mantI a * pw (sqK a)) * sqR (mantI a * pw (sqK a)) != mantI a * pw (sqK a))) := rfl
  obtain ⟨K, hK⟩ : ∃ K, sqK a = K := ⟨_, rfl⟩
  have KK : (powI a % 2 = 0 → K = 128) ∧ (powI a % 2 ≠ 0 → K = 129) := by rw [← hK]; unfold sqK; exact ⟨fun c => if_pos c, fun c => if_neg c⟩
  rw [hK] at SF RT N0 N1
  obtain ⟨N, hN⟩ : ∃ N, mantI a * pw K = N := ⟨_, rfl⟩
  rw [hN] at SF RT N0 N1
  have HN := Lib.hid hN
  generalize sqrtV a = v at *
  generalize sqF a = f at *
  generalize mantI a = m at *
  generalize powI a = p at *
  generalize negB a = s at *
  clear h hk hK
  by_cases an : k = 4 ∨ 9223372036854775808 < a
  · have fin : Hid (v = 9221120237041090560) := by
      unfold Hid; rw [V.out]
      by_cases k4 : k = 4
      · rw [if_pos k4]
      · rw [if_neg k4, if_neg, if_pos (by omega)]
        rintro (c | c)
        · have := K0.out c; omega
        · omega
    clear V SF RT K3 K0
    by_cases k4 : k = 4
    · have tk : (k == 4) = true := by simpa using k4
      go_enter Tryd.func17, Tryd.ntmps17
      go_wp2_with (go_at_call 39; refine (NA.out _).mono ?_; rintro e w' ⟨rfl, rfl⟩)
      go_ret
      exact ⟨by rw [fin.out]; rfl, Below.refl _ _⟩
    · have tk : (k == 4) = false := by simpa using k4
      have an2 : 9223372036854775808 < a := by omega
      clear an
      go_enter Tryd.func17, Tryd.ntmps17
      go_wp2_with (go_at_call 39; refine (NA.out _).mono ?_; rintro e w' ⟨rfl, rfl⟩)
      go_ret
      exact ⟨by rw [fin.out]; rfl, Below.refl _ _⟩
  have tk : (k == 4) = false := by simp; omega
  have an2 : ¬ 9223372036854775808 < a := by omega
  by_cases z : k = 0 ∨ k = 3
  · have fin : Hid (v = a) := by
      unfold Hid; rw [V.out, if_neg (by omega), if_pos]
      rcases z with c | c
      · exact .inl c
      · have := K3.out c; omega
    clear V SF RT K3 K0 an
    by_cases k0 : k = 0
    · have t0 : (k == 0) = true := by simpa using k0
      go_enter Tryd.func17, Tryd.ntmps17
      go_wp2_with (first | (go_at_call 39; refine (NA.out _).mono ?_; rintro e w' ⟨rfl, rfl⟩) | (go_at_call 41; refine (ZA.out _).mono ?_; rintro e w' ⟨rfl, rfl⟩))
      go_ret
      exact ⟨by rw [fin.out]; rfl, Below.refl _ _⟩
    · obtain rfl : k = 3 := by omega
      clear z
      go_enter Tryd.func17, Tryd.ntmps17
      go_wp2_with (first | (go_at_call 39; refine (NA.out _).mono ?_; rintro e w' ⟨rfl, rfl⟩) | (go_at_call 41; refine (ZA.out _).mono ?_; rintro e w' ⟨rfl, rfl⟩) | (go_at_call 40; refine (EA.out _).mono ?_; rintro e w' ⟨rfl, rfl⟩))
      go_ret
      exact ⟨by rw [fin.out]; rfl, Below.refl _ _⟩
  have t0 : (k == 0) = false := by simp; omega
  have t3 : (k == 3) = false := by simp; omega
  have fin : Hid (v = f) := by unfold Hid; rw [V.out, if_neg (by omega), if_neg (by rintro (c | c); omega; have := KI.out c; omega), if_neg an2]
  clear V K3 K0
  have go : ∀ _ : (p % 2 = 0 ∧ K = 128) ∨ (p % 2 ≠ 0 ∧ K = 129), Calls Tryd.prog 17 #[.int .u64 a] w (WordPost v w) := by
    clear KK
    rintro (⟨pe, rfl⟩ | ⟨pe, rfl⟩)
    · have tt : (p.tmod 2 != 0) = false := by simpa using (tmod_two p).2 pe
      have TD : (p - 128).tdiv 2 = (p - 128) / 2 := tdiv_even (by omega)
      go_enter Tryd.func17, Tryd.ntmps17
      go_wp2_with (first | (go_at_call 39; refine (NA.out _).mono ?_; rintro e w' ⟨rfl, rfl⟩) | (go_at_call 41; refine (ZA.out _).mono ?_; rintro e w' ⟨rfl, rfl⟩) | (go_at_call 40; refine (EA.out _).mono ?_; rintro e w' ⟨rfl, rfl⟩))
      refine (SA.out _).mono ?_
      rintro e w' ⟨rfl, rfl⟩
      go_wp2_with fail
      refine (NC.out _).mono ?_
      rintro e w1 ⟨A1, n1, c1, l1, rfl, hs1, hn1, hv1, _, hb1⟩
      have n1b : n1 ≤ 8 := hs1.small hn1 (by rw [hv1]; omega)
      have CU := Lib.hid (rup_any A1 n1 c1 l1 128 w1 hs1 (by omega) (by decide) (by decide))
      rw [hv1, HN.out] at CU
      clear hs1 hn1 hv1
      go_wp2_with fail
      refine CU.out.mono ?_
      rintro e w2 ⟨A2, n2, c2, l2, rfl, hs2, hn2, hv2, _, hb2⟩
      have n2b : n2 ≤ 10 := by
        rw [← hs2.len]
        exact norm_len hs2.lim hn2 (k := 10) (by rw [hv2]; have := pw_mono (a := 190) (b := 32 * ((10 : Nat) : Int)) (by decide) (by decide); omega)
      have hB2 := hb1.trans (hb2.mono hb1.size)
      have RR := Lib.hid (rroot_any A2 n2 c2 l2 w2 hs2 (by omega) (by rw [hv2]; exact N1))
      rw [hv2] at RR
      have hs2 := Lib.hid hs2
      have hv2 := Lib.hid hv2
      clear hn2 hb1 hb2 CU
      go_wp2_with fail
      refine RR.out.mono ?_
      rintro e w3 ⟨A3, n3, c3, l3, rfl, hs3, hn3, n3b, ir, hb3⟩
      have er := isRoot_unique ir RT.out
      have hB3 := hB2.trans (hb3.mono hB2.size)
      have hs2 := Lib.hid (hs2.out.on hb3)
      have CT := Lib.hid (rtimes_any A3 A3 n3 n3 c3 c3 l3 l3 w3 hs3 hs3 (by omega) (by omega))
      rw [er] at CT
      have hs3 := Lib.hid hs3
      have er := Lib.hid er
      clear hn3 ir hb3 hB2 RR
      generalize sqR N = r at *
      go_wp2_with fail
      refine CT.out.mono ?_
      rintro e w4 ⟨A4, n4, c4, l4, rfl, hs4, hn4, hv4, _, hb4⟩
      have n4b : n4 ≤ 10 := by
        rw [← hs4.len]
        exact norm_len hs4.lim hn4 (k := 10) (by rw [hv4]; have := RT.out.2.1; have := pw_mono (a := 190) (b := 32 * ((10 : Nat) : Int)) (by decide) (by decide); omega)
      have hB4 := hB3.trans (hb4.mono hB3.size)
      have CC := Lib.hid (rcmp_any A4 A2 n4 n2 c4 c2 l4 l2 w4 hs4 (hs2.out.on hb4) (by omega) (by omega))
      rw [hv4, hv2.out] at CC
      have hs3 := Lib.hid (hs3.out.on hb4)
      clear hs4 hn4 hv4 hb4 hB3 CT hs2 hv2
      go_wp2_with fail
      refine CC.out.mono ?_
      rintro e w5 ⟨rfl, hb5⟩
      have hB5 := hB4.trans (hb5.mono hB4.size)
      have lt : decide (cmpI (r * r) N < 0) = (r * r != N) := by
        have := RT.out.2.1
        unfold cmpI
        by_cases c : r * r = N
        · rw [if_neg (by omega), if_pos c]; simp [c]
        · rw [if_pos (by omega)]; simp [c]
      have CR := Lib.hid (rround_more false (r * r != N) A3 n3 c3 l3 ((p - 128) / 2) w5 (hs3.out.on hb5) (by omega) (by omega) (by omega) er.out SF.out.symm)
      generalize cmpI (r * r) N = cc at *
      clear hb5 hB4 CC hs3 er SF RT
      go_wp2_with fail
      refine CR.out.mono ?_
      rintro e w6 ⟨rfl, hb6⟩
      have hB6 := hB5.trans (hb6.mono hB5.size)
      go_wp2
      go_ret
      exact ⟨by rw [fin.out]; rfl, hB6⟩
    · have tt : (p.tmod 2 != 0) = true := by simpa using fun h => pe ((tmod_two p).1 h)
      have TD : (p - 129).tdiv 2 = (p - 129) / 2 := tdiv_even (by omega)
      go_enter Tryd.func17, Tryd.ntmps17
      go_wp2_with (first | (go_at_call 39; refine (NA.out _).mono ?_; rintro e w' ⟨rfl, rfl⟩) | (go_at_call 41; refine (ZA.out _).mono ?_; rintro e w' ⟨rfl, rfl⟩) | (go_at_call 40; refine (EA.out _).mono ?_; rintro e w' ⟨rfl, rfl⟩))
      refine (SA.out _).mono ?_
      rintro e w' ⟨rfl, rfl⟩
      go_wp2_with fail
      refine (NC.out _).mono ?_
      rintro e w1 ⟨A1, n1, c1, l1, rfl, hs1, hn1, hv1, _, hb1⟩
      have n1b : n1 ≤ 8 := hs1.small hn1 (by rw [hv1]; omega)
      have CU := Lib.hid (rup_any A1 n1 c1 l1 129 w1 hs1 (by omega) (by decide) (by decide))
      rw [hv1, HN.out] at CU
      clear hs1 hn1 hv1
      go_wp2_with fail
      refine CU.out.mono ?_
      rintro e w2 ⟨A2, n2, c2, l2, rfl, hs2, hn2, hv2, _, hb2⟩
      have n2b : n2 ≤ 10 := by
        rw [← hs2.len]
        exact norm_len hs2.lim hn2 (k := 10) (by rw [hv2]; have := pw_mono (a := 190) (b := 32 * ((10 : Nat) : Int)) (by decide) (by decide); omega)
      have hB2 := hb1.trans (hb2.mono hb1.size)
      have RR := Lib.hid (rroot_any A2 n2 c2 l2 w2 hs2 (by omega) (by rw [hv2]; exact N1))
      rw [hv2] at RR
      have hs2 := Lib.hid hs2
      have hv2 := Lib.hid hv2
      clear hn2 hb1 hb2 CU
      go_wp2_with fail
      refine RR.out.mono ?_
      rintro e w3 ⟨A3, n3, c3, l3, rfl, hs3, hn3, n3b, ir, hb3⟩
      have er := isRoot_unique ir RT.out
      have hB3 := hB2.trans (hb3.mono hB2.size)
      have hs2 := Lib.hid (hs2.out.on hb3)
      have CT := Lib.hid (rtimes_any A3 A3 n3 n3 c3 c3 l3 l3 w3 hs3 hs3 (by omega) (by omega))
      rw [er] at CT
      have hs3 := Lib.hid hs3
      have er := Lib.hid er
      clear hn3 ir hb3 hB2 RR
      generalize sqR N = r at *
      go_wp2_with fail
      refine CT.out.mono ?_
      rintro e w4 ⟨A4, n4, c4, l4, rfl, hs4, hn4, hv4, _, hb4⟩
      have n4b : n4 ≤ 10 := by
        rw [← hs4.len]
        exact norm_len hs4.lim hn4 (k := 10) (by rw [hv4]; have := RT.out.2.1; have := pw_mono (a := 190) (b := 32 * ((10 : Nat) : Int)) (by decide) (by decide); omega)
      have hB4 := hB3.trans (hb4.mono hB3.size)
      have CC := Lib.hid (rcmp_any A4 A2 n4 n2 c4 c2 l4 l2 w4 hs4 (hs2.out.on hb4) (by omega) (by omega))
      rw [hv4, hv2.out] at CC
      have hs3 := Lib.hid (hs3.out.on hb4)
      clear hs4 hn4 hv4 hb4 hB3 CT hs2 hv2
      go_wp2_with fail
      refine CC.out.mono ?_
      rintro e w5 ⟨rfl, hb5⟩
      have hB5 := hB4.trans (hb5.mono hB4.size)
      have lt : decide (cmpI (r * r) N < 0) = (r * r != N) := by
        have := RT.out.2.1
        unfold cmpI
        by_cases c : r * r = N
        · rw [if_neg (by omega), if_pos c]; simp [c]
        · rw [if_pos (by omega)]; simp [c]
      have CR := Lib.hid (rround_more false (r * r != N) A3 n3 c3 l3 ((p - 129) / 2) w5 (hs3.out.on hb5) (by omega) (by omega) (by omega) er.out SF.out.symm)
      generalize cmpI (r * r) N = cc at *
      clear hb5 hB4 CC hs3 er SF RT
      go_wp2_with fail
      refine CR.out.mono ?_
      rintro e w6 ⟨rfl, hb6⟩
      have hB6 := hB5.trans (hb6.mono hB5.size)
      go_wp2
      go_ret
      exact ⟨by rw [fin.out]; rfl, hB6⟩
  exact go (by
    rcases Int.emod_two_eq p with c | c
    · exact .inl ⟨c, KK.1 c⟩
    · exact .inr ⟨by omega, KK.2 (by omega)⟩)
end Go.Proofs.YtnefacnceemklaaDoor
