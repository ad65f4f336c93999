/-
  The document's Round: the nearest number, by naturals.
-/
import Derived.Test.YtomeidbigofnaaaL10
import Derived.Test.YtomeidbigofnaaaA0
namespace Go.Proofs.Ytomeidbigofnaaa
open Go.RowKit Go.Shelf

theorem LenIs.bits {v L : Int} (h : LenIs v L) : ∃ k : Nat, L = (k : Int) ∧ Bits v k := by
  obtain ⟨k, rfl⟩ := Int.eq_ofNat_of_zero_le h.n0
  exact ⟨k, rfl, h.v0, h.lt, h.ge⟩
/-- What Round answers. -/
def RoundPost (neg : Bool) (v e : Int) (more : Bool) (w : World) (en : Ending) (w' : World) : Prop :=
  ∃ L : Int, LenIs v L ∧ en = .returned (.int .u64 (joinV neg v e L more)) ∧ Below w.heap.size w w'

/-- The number, by the unit U and the kept bits M. -/
def outI (s U M : Int) : Int := if 972 ≤ U then s + 9218868437227405312 else s + (M + (U + 1074) * 4503599627370496)
theorem round_join {neg more : Bool} {v e L : Int} (h : LenIs v L) (hz : v ≠ 0) : joinV neg v e L more = outI (signI neg) (placeI e L) (packV v (placeI e L - e) more) := by
  have L1 : 1 ≤ L := by
    have a := h.lt
    have b := h.v0
    rcases Int.lt_or_le 0 L with c | c
    · omega
    · rw [pw_nonpos c] at a; omega
  unfold joinV outI
  by_cases c1 : e < -2148 - L
  · rw [if_pos (.inr c1)]
    have hU : placeI e L = -1074 := by unfold placeI; omega
    rw [hU, if_neg (by decide)]
    have hM : packV v (-1074 - e) more = 0 := by
      unfold packV
      rw [if_neg (by omega)]
      have m1 := pw_mono (a := L) (b := -1074 - e - 1) h.n0 (by omega)
      have m2 := pw_mono (a := L) (b := -1074 - e) h.n0 (by omega)
      have a := h.lt
      unfold roundI
      rw [Int.emod_eq_of_lt h.v0 (by omega), Int.emod_eq_of_lt h.v0 (by omega), Int.ediv_eq_zero_of_lt h.v0 (by omega)]
      simp
    rw [hM]; omega
  · rw [if_neg (by omega)]
    by_cases c2 : 1024 < e ∨ 1024 < e + L
    · rw [if_pos c2, if_pos (by unfold placeI; omega)]
    · rw [if_neg c2, if_neg (by unfold placeI; omega)]
theorem pack_facts {v e L : Int} (more : Bool) (h : LenIs v L) (hz : v ≠ 0) : 0 ≤ packV v (placeI e L - e) more ∧ packV v (placeI e L - e) more ≤ 9007199254740992 ∧ (packV v (placeI e L - e) more < 4503599627370496 → placeI e L = -1074) := by
  obtain ⟨k, rfl, hb⟩ := h.bits
  have b := packV_bd (c := placeI e (k : Int) - e) more hb (by unfold placeI; omega)
  refine ⟨b.1, b.2, fun hlt => ?_⟩
  by_cases c : e + (k : Int) - 53 ≤ -1074
  · unfold placeI; omega
  · exfalso
    have e1 : placeI e (k : Int) - e = (k : Int) - 53 := by unfold placeI; omega
    rw [e1] at hlt
    have := packV_full more hb hz
    omega
theorem pack_up {v e U : Int} (more : Bool) (h : U ≤ e) : packV v (U - e) more = v * pw (e - U) := by
  unfold packV; rw [if_pos (by omega), show -(U - e) = e - U by omega]
theorem pack_dn {v e U : Int} (more : Bool) (h : e < U) : packV v (U - e) more = roundI v (U - e) more := by
  unfold packV; rw [if_neg (by omega)]
theorem half_bit (v c : Int) (hc : 1 ≤ c) : (v % pw c != v % pw (c - 1)) = bitV v (c - 1) := by
  have m := mod_succ v (c - 1) (by omega)
  rw [show c - 1 + 1 = c by omega] at m
  have hp := pw_pos (c - 1)
  unfold bitV
  rw [m]
  have h2 : v / pw (c - 1) % 2 = 0 ∨ v / pw (c - 1) % 2 = 1 := by omega
  rcases h2 with h2 | h2 <;> rw [h2]
  · simp
  · simp; omega
theorem dec_ne (x : Int) : decide (x ≠ 0) = (x != 0) := by by_cases z : x = 0 <;> simp [z]
theorem place_lo (e L : Int) : -1074 ≤ placeI e L := by unfold placeI; omega

/-- The end of Round: from the unit and the bits on. -/
theorem out_big (s U : Int) (h : 971 ≤ U) : outI s U 9007199254740992 = s + 9218868437227405312 := by
  unfold outI; split <;> omega
theorem out_carry (s U : Int) (h : U < 971) : outI s U 9007199254740992 = s + (U + 1 + 1075) * 4503599627370496 := by
  unfold outI; rw [if_neg (by omega)]; omega
theorem out_small (s M : Int) : outI s (-1074) M = s + M := by
  unfold outI; rw [if_neg (by decide)]; omega
theorem out_inf (s U M : Int) (h : 972 ≤ U) : outI s U M = s + 9218868437227405312 := by unfold outI; rw [if_pos h]
theorem out_plain (s U M : Int) (h : U < 972) : outI s U M = s + (U + 1075) * 4503599627370496 + M - 4503599627370496 := by
  unfold outI; rw [if_neg (by omega)]; omega

set_option maxRecDepth 100000 in
set_option maxHeartbeats 8000000 in
theorem rround_false (A : Option Addr) (n c : Nat) (l : List Int) (e : Int) (more : Bool) (w : World) (h : Sl w w.heap.size A n c l) (hn : n ≤ 3000) (he0 : -9223372036854775808 ≤ e) (he1 : e ≤ 9223372036854775807) :
    Calls Try.prog 37 #[.bool false, .slice A n c, .int .i64 e, .bool more] w (RoundPost false (natV l) e more w) := by
  have HL := Lib.hid (rlen_any A n c l w h (by omega))
  have HA := Lib.hid h
  have hlt : Hid (natV l < pw (32 * (n : Int))) := by rw [← h.len]; exact natV_lt h.lim
  have bn : (n : Int) ≤ 3000 := by omega
  clear h
  have sg : Hid (signI false = 0) := rfl
  go_enter Try.func37, Try.ntmps37
  go_wp2_with fail
  refine HL.out.mono ?_
  rintro en w1 ⟨L, hL, rfl, hb1⟩
  have L0 := hL.n0
  have L1 : L ≤ 96000 := by
    by_cases z : natV l = 0
    · rw [hL.z z]; decide
    · have h1 := hL.ge z
      have h2 := hlt.out
      have h3 : pw L < pw (32 * (n : Int) + 1) := by rw [pw_succ _ (by omega)]; omega
      have := pw_inj_le (a := L) (by omega) h3
      omega
  have HLI := Lib.hid hL
  have HA1 := Lib.hid (HA.out.on hb1)
  have hB := hb1
  by_cases cz : L = 0
  · have cz1 : (L == 0) = true := by simpa using cz
    have v0 : natV l = 0 := by
      rcases Int.lt_or_le 0 (natV l) with g | g
      · have := hL.lt; rw [cz, show pw 0 = 1 from rfl] at this; omega
      · have := hL.v0; omega
    have fin : Hid (joinV false (natV l) e L more = signI false) := by
      unfold Hid joinV
      rw [if_pos (.inl v0)]
    have v0 := Lib.hid v0
    have cz2 := Lib.hid cz
    clear cz hL
    go_wp2
    go_ret
    exact ⟨L, HLI.out, by rw [fin.out, sg.out]; rfl, hB⟩
  · have cz1 : (L == 0) = false := by simpa using cz
    have vz : Hid (natV l ≠ 0) := fun z => cz (hL.z z)
    by_cases c1 : e < -100000
    · have fin : Hid (joinV false (natV l) e L more = signI false) := by
        unfold Hid joinV
        rw [if_pos (.inr (by omega))]
      have c2 : e + L < -2000 := by omega
      clear cz hL
      go_wp2
      go_ret
      exact ⟨L, HLI.out, by rw [fin.out, sg.out]; rfl, hB⟩
    · have J := Lib.hid (round_join (neg := false) (more := more) (e := e) hL vz.out)
      by_cases c2 : 2000 < e
      · have hU : 972 ≤ placeI e L := by unfold placeI; omega
        have fin := Lib.hid (J.out.trans (out_inf (signI false) _ _ hU))
        clear cz hL
        go_wp2
        go_ret
        exact ⟨L, HLI.out, by rw [fin.out, sg.out]; rfl, hB⟩
      · obtain ⟨F1, F2, F3⟩ := pack_facts (e := e) more hL vz.out
        have hUu : Hid (placeI e L = max (e + L - 53) (-1074)) := rfl
        have U0 := place_lo e L
        have U1 : placeI e L ≤ 98000 := by unfold placeI; omega
        have FB := Lib.hid F3
        clear F3 cz hL
        obtain ⟨U, hU⟩ : ∃ U, placeI e L = U := ⟨_, rfl⟩
        rw [hU] at F1 F2 FB U0 U1 hUu J
        have HM : Hid (∃ M, packV (natV l) (U - e) more = M) := ⟨_, rfl⟩
        obtain ⟨M, hM⟩ := HM.out
        rw [hM] at F1 F2 FB J
        have HM := Lib.hid hM
        clear hM hU
        go_upto_if 41 with fail
        go_cut [11] (fun u wx => u = .int .i64 U ∧ w1 = wx)
        case first =>
          by_cases c3 : e + L - 53 < -1074
          · have eU : Hid (U = -1074) := by unfold Hid; rw [hUu.out]; omega
            go_wp2
            go_meet
            exact ⟨by rw [eU.out], by first | trivial | rfl⟩
          · have eU : Hid (U = e + L - 53) := by unfold Hid; rw [hUu.out]; omega
            go_wp2
            go_meet
            exact ⟨by rw [eU.out], by first | trivial | rfl⟩
        case rest =>
          obtain ⟨rfl, rfl⟩ := hcut
          go_upto_if 44 with fail
          go_cut [12] (fun m wx => m = .int .u64 M ∧ Below w.heap.size w wx)
          case first =>
            by_cases c5 : U ≤ e
            · have hp : Hid (M = natV l * pw (e - U)) := by unfold Hid; rw [← HM.out]; exact pack_up more c5
              have CU := Lib.hid (rup_any A n c l (e - U) w1 HA1.out (by omega) (by omega) (by omega))
              have s1 : 0 ≤ e - U := by omega
              clear FB J
              go_wp2_with fail
              refine CU.out.mono ?_
              rintro en w2 ⟨A2, n2, c2, l2, rfl, hs2, hn2, hv2, fr2, hb2⟩
              have CF := Lib.hid (rfrom_any A2 n2 c2 l2 0 w2 hs2 (by decide) (by decide))
              have hv : Hid (natV l2 / pw 0 % 18446744073709551616 = M) := by
                unfold Hid
                rw [show pw 0 = 1 from rfl, Int.ediv_one, hv2, ← hp.out]; omega
              have hB2 := hB.trans (hb2.mono hB.size)
              rw [hv.out] at CF
              clear hs2 hn2 hv2 fr2 hb2 CU
              go_wp2_with fail
              refine CF.out.mono ?_
              rintro en w' ⟨rfl, rfl⟩
              go_wp2
              go_meet
              exact ⟨rfl, hB2⟩
            · have hk0 : 1 ≤ U - e := by omega
              have hk1 : U - e ≤ 300000 := by omega
              obtain ⟨k, hk⟩ : ∃ k, U - e = k := ⟨_, rfl⟩
              have CF := Lib.hid (rfrom_any A n c l k w1 HA1.out (by omega) (by omega))
              have CB := Lib.hid (bit_any A n c l (k - 1) w1 HA1.out (by omega) (by omega))
              have CLo := Lib.hid (rlow_any A n c l (k - 1) w1 HA1.out (by omega) (by omega) (by omega))
              have hr : M = roundI (natV l) k more := by rw [← HM.out, ← hk]; exact pack_dn more (by omega)
              unfold roundI at hr
              rw [half_bit _ _ (by omega)] at hr
              have q0 : 0 ≤ natV l / pw k := Int.ediv_nonneg HLI.out.v0 (Int.le_of_lt (pw_pos k))
              have q1 : natV l / pw k ≤ M := by rw [hr]; split <;> omega
              have em : natV l / pw k % 18446744073709551616 = natV l / pw k := by omega
              rw [em] at CF
              have dl : decide (natV l % pw (k - 1) ≠ 0) = (natV l % pw (k - 1) != 0) := dec_ne _
              rw [dl] at CLo
              have hr := Lib.hid hr
              generalize natV l / pw k = q at *
              generalize bitV (natV l) (k - 1) = hb at *
              generalize (natV l % pw (k - 1) != 0) = lw at *
              have c5' : ¬ U ≤ e := c5
              clear em dl FB J
              have rest : Hid (∀ x : Int, x = M → Value.int .u64 x = .int .u64 M) := fun x hx => by rw [hx]
              by_cases od : q % 2 = 1
              · have od1 : (q % 2 == 1) = true := by simpa using od
                have od2 : (q % 2 != 0) = true := by simp; omega
                rw [od2] at hr
                have od := Lib.hid od
                clear od2
                cases hb <;> cases lw <;> cases more
                all_goals
                  have hr : M = _ := hr.out
                  simp at hr
                  have hr := Lib.hid hr
                  go_wp2_with fail
                  refine CF.out.mono ?_
                  rintro en w' ⟨rfl, rfl⟩
                  go_wp2_with fail
                  refine CB.out.mono ?_
                  rintro en w' ⟨rfl, rfl⟩
                  go_wp2_with fail
                  refine CLo.out.mono ?_
                  rintro en w' ⟨rfl, rfl⟩
                  go_wp2
                  go_meet
                  exact ⟨rest.out _ hr.out.symm, hB⟩
              · have od1 : (q % 2 == 1) = false := by simpa using od
                have od2 : (q % 2 != 0) = false := by simp; omega
                rw [od2] at hr
                have od := Lib.hid od
                clear od2
                cases hb <;> cases lw <;> cases more
                all_goals
                  have hr : M = _ := hr.out
                  simp at hr
                  have hr := Lib.hid hr
                  go_wp2_with fail
                  refine CF.out.mono ?_
                  rintro en w' ⟨rfl, rfl⟩
                  go_wp2_with fail
                  refine CB.out.mono ?_
                  rintro en w' ⟨rfl, rfl⟩
                  go_wp2_with fail
                  refine CLo.out.mono ?_
                  rintro en w' ⟨rfl, rfl⟩
                  go_wp2
                  go_meet
                  exact ⟨rest.out _ hr.out.symm, hB⟩
          case rest =>
            obtain ⟨rfl, hB⟩ := hcut
            clear HA HA1 HL HM hlt hUu
            rcases Int.lt_trichotomy M 9007199254740992 with cM | cM | cM
            · have m1 : (M == 9007199254740992) = false := by simp; omega
              by_cases cS : M < 4503599627370496
              · have eU : U = -1074 := FB.out cS
                have fin : Hid (joinV false (natV l) e L more = 0 + M) := by unfold Hid; rw [J.out, eU, sg.out]; exact out_small _ _
                clear J FB eU
                go_wp2
                go_ret
                exact ⟨L, HLI.out, by rw [fin.out]; first | rfl | (simp only [Int.zero_add]; rfl), hB⟩
              · by_cases cU : 972 ≤ U
                · have fin : Hid (joinV false (natV l) e L more = 0 + 9218868437227405312) := by unfold Hid; rw [J.out, sg.out]; exact out_inf _ _ _ cU
                  clear J FB
                  go_wp2
                  go_ret
                  exact ⟨L, HLI.out, by rw [fin.out]; first | rfl | (simp only [Int.zero_add]; rfl), hB⟩
                · have fin : Hid (joinV false (natV l) e L more = 0 + (U + 1075) * 4503599627370496 + M - 4503599627370496) := by unfold Hid; rw [J.out, sg.out]; exact out_plain _ _ _ (by omega)
                  clear J FB
                  go_wp2
                  go_ret
                  exact ⟨L, HLI.out, by rw [fin.out]; first | rfl | (simp only [Int.zero_add]; rfl), hB⟩
            · have m1 : (M == 9007199254740992) = true := by simpa using cM
              by_cases cU : 971 ≤ U
              · have fin : Hid (joinV false (natV l) e L more = 0 + 9218868437227405312) := by unfold Hid; rw [J.out, sg.out, cM]; exact out_big _ _ cU
                have cM := Lib.hid cM
                clear J FB
                go_wp2
                go_ret
                exact ⟨L, HLI.out, by rw [fin.out]; first | rfl | (simp only [Int.zero_add]; rfl), hB⟩
              · have fin : Hid (joinV false (natV l) e L more = 0 + (U + 1 + 1075) * 4503599627370496) := by unfold Hid; rw [J.out, sg.out, cM]; exact out_carry _ _ (by omega)
                have cM := Lib.hid cM
                clear J FB
                go_wp2
                go_ret
                exact ⟨L, HLI.out, by rw [fin.out]; first | rfl | (simp only [Int.zero_add]; rfl), hB⟩
            · omega

set_option maxRecDepth 100000 in
set_option maxHeartbeats 8000000 in
theorem rround_true (A : Option Addr) (n c : Nat) (l : List Int) (e : Int) (more : Bool) (w : World) (h : Sl w w.heap.size A n c l) (hn : n ≤ 3000) (he0 : -9223372036854775808 ≤ e) (he1 : e ≤ 9223372036854775807) :
    Calls Try.prog 37 #[.bool true, .slice A n c, .int .i64 e, .bool more] w (RoundPost true (natV l) e more w) := by
  have HL := Lib.hid (rlen_any A n c l w h (by omega))
  have HA := Lib.hid h
  have hlt : Hid (natV l < pw (32 * (n : Int))) := by rw [← h.len]; exact natV_lt h.lim
  have bn : (n : Int) ≤ 3000 := by omega
  clear h
  have sg : Hid (signI true = 9223372036854775808) := rfl
  go_enter Try.func37, Try.ntmps37
  go_wp2_with fail
  refine HL.out.mono ?_
  rintro en w1 ⟨L, hL, rfl, hb1⟩
  have L0 := hL.n0
  have L1 : L ≤ 96000 := by
    by_cases z : natV l = 0
    · rw [hL.z z]; decide
    · have h1 := hL.ge z
      have h2 := hlt.out
      have h3 : pw L < pw (32 * (n : Int) + 1) := by rw [pw_succ _ (by omega)]; omega
      have := pw_inj_le (a := L) (by omega) h3
      omega
  have HLI := Lib.hid hL
  have HA1 := Lib.hid (HA.out.on hb1)
  have hB := hb1
  by_cases cz : L = 0
  · have cz1 : (L == 0) = true := by simpa using cz
    have v0 : natV l = 0 := by
      rcases Int.lt_or_le 0 (natV l) with g | g
      · have := hL.lt; rw [cz, show pw 0 = 1 from rfl] at this; omega
      · have := hL.v0; omega
    have fin : Hid (joinV true (natV l) e L more = signI true) := by
      unfold Hid joinV
      rw [if_pos (.inl v0)]
    have v0 := Lib.hid v0
    have cz2 := Lib.hid cz
    clear cz hL
    go_wp2
    go_ret
    exact ⟨L, HLI.out, by rw [fin.out, sg.out]; rfl, hB⟩
  · have cz1 : (L == 0) = false := by simpa using cz
    have vz : Hid (natV l ≠ 0) := fun z => cz (hL.z z)
    by_cases c1 : e < -100000
    · have fin : Hid (joinV true (natV l) e L more = signI true) := by
        unfold Hid joinV
        rw [if_pos (.inr (by omega))]
      have c2 : e + L < -2000 := by omega
      clear cz hL
      go_wp2
      go_ret
      exact ⟨L, HLI.out, by rw [fin.out, sg.out]; rfl, hB⟩
    · have J := Lib.hid (round_join (neg := true) (more := more) (e := e) hL vz.out)
      by_cases c2 : 2000 < e
      · have hU : 972 ≤ placeI e L := by unfold placeI; omega
        have fin := Lib.hid (J.out.trans (out_inf (signI true) _ _ hU))
        clear cz hL
        go_wp2
        go_ret
        exact ⟨L, HLI.out, by rw [fin.out, sg.out]; rfl, hB⟩
      · obtain ⟨F1, F2, F3⟩ := pack_facts (e := e) more hL vz.out
        have hUu : Hid (placeI e L = max (e + L - 53) (-1074)) := rfl
        have U0 := place_lo e L
        have U1 : placeI e L ≤ 98000 := by unfold placeI; omega
        have FB := Lib.hid F3
        clear F3 cz hL
        obtain ⟨U, hU⟩ : ∃ U, placeI e L = U := ⟨_, rfl⟩
        rw [hU] at F1 F2 FB U0 U1 hUu J
        have HM : Hid (∃ M, packV (natV l) (U - e) more = M) := ⟨_, rfl⟩
        obtain ⟨M, hM⟩ := HM.out
        rw [hM] at F1 F2 FB J
        have HM := Lib.hid hM
        clear hM hU
        go_upto_if 41 with fail
        go_cut [11] (fun u wx => u = .int .i64 U ∧ w1 = wx)
        case first =>
          by_cases c3 : e + L - 53 < -1074
          · have eU : Hid (U = -1074) := by unfold Hid; rw [hUu.out]; omega
            go_wp2
            go_meet
            exact ⟨by rw [eU.out], by first | trivial | rfl⟩
          · have eU : Hid (U = e + L - 53) := by unfold Hid; rw [hUu.out]; omega
            go_wp2
            go_meet
            exact ⟨by rw [eU.out], by first | trivial | rfl⟩
        case rest =>
          obtain ⟨rfl, rfl⟩ := hcut
          go_upto_if 44 with fail
          go_cut [12] (fun m wx => m = .int .u64 M ∧ Below w.heap.size w wx)
          case first =>
            by_cases c5 : U ≤ e
            · have hp : Hid (M = natV l * pw (e - U)) := by unfold Hid; rw [← HM.out]; exact pack_up more c5
              have CU := Lib.hid (rup_any A n c l (e - U) w1 HA1.out (by omega) (by omega) (by omega))
              have s1 : 0 ≤ e - U := by omega
              clear FB J
              go_wp2_with fail
              refine CU.out.mono ?_
              rintro en w2 ⟨A2, n2, c2, l2, rfl, hs2, hn2, hv2, fr2, hb2⟩
              have CF := Lib.hid (rfrom_any A2 n2 c2 l2 0 w2 hs2 (by decide) (by decide))
              have hv : Hid (natV l2 / pw 0 % 18446744073709551616 = M) := by
                unfold Hid
                rw [show pw 0 = 1 from rfl, Int.ediv_one, hv2, ← hp.out]; omega
              have hB2 := hB.trans (hb2.mono hB.size)
              rw [hv.out] at CF
              clear hs2 hn2 hv2 fr2 hb2 CU
              go_wp2_with fail
              refine CF.out.mono ?_
              rintro en w' ⟨rfl, rfl⟩
              go_wp2
              go_meet
              exact ⟨rfl, hB2⟩
            · have hk0 : 1 ≤ U - e := by omega
              have hk1 : U - e ≤ 300000 := by omega
              obtain ⟨k, hk⟩ : ∃ k, U - e = k := ⟨_, rfl⟩
              have CF := Lib.hid (rfrom_any A n c l k w1 HA1.out (by omega) (by omega))
              have CB := Lib.hid (bit_any A n c l (k - 1) w1 HA1.out (by omega) (by omega))
              have CLo := Lib.hid (rlow_any A n c l (k - 1) w1 HA1.out (by omega) (by omega) (by omega))
              have hr : M = roundI (natV l) k more := by rw [← HM.out, ← hk]; exact pack_dn more (by omega)
              unfold roundI at hr
              rw [half_bit _ _ (by omega)] at hr
              have q0 : 0 ≤ natV l / pw k := Int.ediv_nonneg HLI.out.v0 (Int.le_of_lt (pw_pos k))
              have q1 : natV l / pw k ≤ M := by rw [hr]; split <;> omega
              have em : natV l / pw k % 18446744073709551616 = natV l / pw k := by omega
              rw [em] at CF
              have dl : decide (natV l % pw (k - 1) ≠ 0) = (natV l % pw (k - 1) != 0) := dec_ne _
              rw [dl] at CLo
              have hr := Lib.hid hr
              generalize natV l / pw k = q at *
              generalize bitV (natV l) (k - 1) = hb at *
              generalize (natV l % pw (k - 1) != 0) = lw at *
              have c5' : ¬ U ≤ e := c5
              clear em dl FB J
              have rest : Hid (∀ x : Int, x = M → Value.int .u64 x = .int .u64 M) := fun x hx => by rw [hx]
              by_cases od : q % 2 = 1
              · have od1 : (q % 2 == 1) = true := by simpa using od
                have od2 : (q % 2 != 0) = true := by simp; omega
                rw [od2] at hr
                have od := Lib.hid od
                clear od2
                cases hb <;> cases lw <;> cases more
                all_goals
                  have hr : M = _ := hr.out
                  simp at hr
                  have hr := Lib.hid hr
                  go_wp2_with fail
                  refine CF.out.mono ?_
                  rintro en w' ⟨rfl, rfl⟩
                  go_wp2_with fail
                  refine CB.out.mono ?_
                  rintro en w' ⟨rfl, rfl⟩
                  go_wp2_with fail
                  refine CLo.out.mono ?_
                  rintro en w' ⟨rfl, rfl⟩
                  go_wp2
                  go_meet
                  exact ⟨rest.out _ hr.out.symm, hB⟩
              · have od1 : (q % 2 == 1) = false := by simpa using od
                have od2 : (q % 2 != 0) = false := by simp; omega
                rw [od2] at hr
                have od := Lib.hid od
                clear od2
                cases hb <;> cases lw <;> cases more
                all_goals
                  have hr : M = _ := hr.out
                  simp at hr
                  have hr := Lib.hid hr
                  go_wp2_with fail
                  refine CF.out.mono ?_
                  rintro en w' ⟨rfl, rfl⟩
                  go_wp2_with fail
                  refine CB.out.mono ?_
                  rintro en w' ⟨rfl, rfl⟩
                  go_wp2_with fail
                  refine CLo.out.mono ?_
                  rintro en w' ⟨rfl, rfl⟩
                  go_wp2
                  go_meet
                  exact ⟨rest.out _ hr.out.symm, hB⟩
          case rest =>
            obtain ⟨rfl, hB⟩ := hcut
            clear HA HA1 HL HM hlt hUu
            rcases Int.lt_trichotomy M 9007199254740992 with cM | cM | cM
            · have m1 : (M == 9007199254740992) = false := by simp; omega
              by_cases cS : M < 4503599627370496
              · have eU : U = -1074 := FB.out cS
                have fin : Hid (joinV true (natV l) e L more = 9223372036854775808 + M) := by unfold Hid; rw [J.out, eU, sg.out]; exact out_small _ _
                clear J FB eU
                go_wp2
                go_ret
                exact ⟨L, HLI.out, by rw [fin.out]; first | rfl | (simp only [Int.zero_add]; rfl), hB⟩
              · by_cases cU : 972 ≤ U
                · have fin : Hid (joinV true (natV l) e L more = 9223372036854775808 + 9218868437227405312) := by unfold Hid; rw [J.out, sg.out]; exact out_inf _ _ _ cU
                  clear J FB
                  go_wp2
                  go_ret
                  exact ⟨L, HLI.out, by rw [fin.out]; first | rfl | (simp only [Int.zero_add]; rfl), hB⟩
                · have fin : Hid (joinV true (natV l) e L more = 9223372036854775808 + (U + 1075) * 4503599627370496 + M - 4503599627370496) := by unfold Hid; rw [J.out, sg.out]; exact out_plain _ _ _ (by omega)
                  clear J FB
                  go_wp2
                  go_ret
                  exact ⟨L, HLI.out, by rw [fin.out]; first | rfl | (simp only [Int.zero_add]; rfl), hB⟩
            · have m1 : (M == 9007199254740992) = true := by simpa using cM
              by_cases cU : 971 ≤ U
              · have fin : Hid (joinV true (natV l) e L more = 9223372036854775808 + 9218868437227405312) := by unfold Hid; rw [J.out, sg.out, cM]; exact out_big _ _ cU
                have cM := Lib.hid cM
                clear J FB
                go_wp2
                go_ret
                exact ⟨L, HLI.out, by rw [fin.out]; first | rfl | (simp only [Int.zero_add]; rfl), hB⟩
              · have fin : Hid (joinV true (natV l) e L more = 9223372036854775808 + (U + 1 + 1075) * 4503599627370496) := by unfold Hid; rw [J.out, sg.out, cM]; exact out_carry _ _ (by omega)
                have cM := Lib.hid cM
                clear J FB
                go_wp2
                go_ret
                exact ⟨L, HLI.out, by rw [fin.out]; first | rfl | (simp only [Int.zero_add]; rfl), hB⟩
            · omega

theorem rround_any (neg : Bool) (A : Option Addr) (n c : Nat) (l : List Int) (e : Int) (more : Bool) (w : World) (h : Sl w w.heap.size A n c l) (hn : n ≤ 3000) (he0 : -9223372036854775808 ≤ e) (he1 : e ≤ 9223372036854775807) :
    Calls Try.prog 37 #[.bool neg, .slice A n c, .int .i64 e, .bool more] w (RoundPost neg (natV l) e more w) := by
  cases neg
  · exact rround_false A n c l e more w h hn he0 he1
  · exact rround_true A n c l e more w h hn he0 he1
end Go.Proofs.Ytomeidbigofnaaa
