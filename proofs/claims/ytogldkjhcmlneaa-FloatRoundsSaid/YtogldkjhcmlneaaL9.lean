/-
  The document's Shr, Root.
-/
import Derived.Test.YtogldkjhcmlneaaL8
import Derived.Test.YtogldkjhcmlneaaW6
namespace Go.Proofs.Ytogldkjhcmlneaa
open Go.RowKit Go.Shelf

/-- The bits below the i-th, moved down by s. -/
structure ShrAt (V s : Int) (N : Nat) (i : Int) (o : List Int) (lost : Bool) : Prop where
  len : o.length = N
  lim : ∀ x ∈ o, Limb x
  v : natV o = V % pw i / pw s
  l : lost = decide (V % pw (min i s) ≠ 0)
theorem mod_succ (V i : Int) (hi : 0 ≤ i) : V % pw (i + 1) = V % pw i + pw i * (V / pw i % 2) := by
  have hp := pw_pos i
  have a := Int.mul_ediv_add_emod V (pw i)
  have b := Int.mul_ediv_add_emod (V / pw i) 2
  have r0 := Int.emod_nonneg V (show pw i ≠ 0 by omega)
  have r1 := Int.emod_lt_of_pos V hp
  have t : V = (V % pw i + pw i * (V / pw i % 2)) + pw (i + 1) * (V / pw i / 2) := by
    rw [pw_succ i hi, Int.mul_comm 2 (pw i), Int.mul_assoc]
    have : pw i * (V / pw i) = pw i * (2 * (V / pw i / 2)) + pw i * (V / pw i % 2) := by rw [← Int.mul_add, b]
    omega
  have lt : V % pw i + pw i * (V / pw i % 2) < pw (i + 1) := by
    rw [pw_succ i hi]
    have h2 : V / pw i % 2 = 0 ∨ V / pw i % 2 = 1 := by omega
    rcases h2 with h2 | h2 <;> rw [h2] <;> omega
  have ge : 0 ≤ V % pw i + pw i * (V / pw i % 2) := by
    have := Int.mul_nonneg (Int.le_of_lt hp) (show 0 ≤ V / pw i % 2 by omega)
    omega
  rw [t, Int.add_mul_emod_self_left, Int.emod_eq_of_lt ge lt]
  rw [← t]
theorem shr_no {V s i : Int} {N : Nat} {o : List Int} {lost : Bool} (hi : 0 ≤ i) (h : ShrAt V s N i o lost) (hb : V / pw i % 2 = 0) : ShrAt V s N (i + 1) o lost := by
  obtain ⟨h1, h2, h3, h4⟩ := h
  have e : V % pw (i + 1) = V % pw i := by rw [mod_succ V i hi, hb]; omega
  refine ⟨h1, h2, by rw [h3, e], ?_⟩
  rw [h4]
  rcases Int.lt_or_le i s with c | c
  · rw [show min i s = i by omega, show min (i + 1) s = i + 1 by omega, e]
  · rw [show min i s = s by omega, show min (i + 1) s = s by omega]
theorem shr_lost {V s i : Int} {N : Nat} {o : List Int} {lost : Bool} (hi : 0 ≤ i) (h : ShrAt V s N i o lost) (hb : V / pw i % 2 = 1) (hs : i < s) : ShrAt V s N (i + 1) o true := by
  obtain ⟨h1, h2, h3, h4⟩ := h
  have hp := pw_pos i
  have e : V % pw (i + 1) = V % pw i + pw i := by rw [mod_succ V i hi, hb]; omega
  have r0 := Int.emod_nonneg V (show pw i ≠ 0 by omega)
  have r1 := Int.emod_lt_of_pos V hp
  have m := pw_mono (a := i + 1) (b := s) (by omega) (by omega)
  have p2 := pw_succ i hi
  refine ⟨h1, h2, ?_, ?_⟩
  · rw [h3, e, Int.ediv_eq_zero_of_lt r0 (by omega), Int.ediv_eq_zero_of_lt (by omega) (by omega)]
  · rw [show min (i + 1) s = i + 1 by omega, e]
    have : V % pw i + pw i ≠ 0 := by omega
    simp [this]
theorem shr_bit {V s i : Int} {N : Nat} {o : List Int} {lost : Bool} (_hi : 0 ≤ i) (hs0 : 0 ≤ s) (h : ShrAt V s N i o lost) (hs : s ≤ i) : natV o / pw (i - s) % 2 = 0 := by
  have hp := pw_pos i
  have r0 := Int.emod_nonneg V (show pw i ≠ 0 by omega)
  have r1 := Int.emod_lt_of_pos V hp
  have e : pw i = pw (i - s) * pw s := by rw [← pw_add _ _ (by omega) hs0]; congr 1; omega
  have lt : V % pw i / pw s < pw (i - s) := Int.ediv_lt_of_lt_mul (pw_pos s) (by rw [← e]; exact r1)
  rw [h.v, Int.ediv_eq_zero_of_lt (Int.ediv_nonneg r0 (Int.le_of_lt (pw_pos s))) lt]; rfl
theorem shr_set {V s i x : Int} {N : Nat} {o : List Int} {lost : Bool} (hi : 0 ≤ i) (hs0 : 0 ≤ s) (h : ShrAt V s N i o lost) (hb : V / pw i % 2 = 1) (hs : s ≤ i) (hx : Limb x)
    (hset : natV (o.set ((i - s) / 32).toNat x) = natV o + pw (i - s)) : ShrAt V s N (i + 1) (o.set ((i - s) / 32).toNat x) lost := by
  obtain ⟨h1, h2, h3, h4⟩ := h
  have e : V % pw (i + 1) = V % pw i + pw s * pw (i - s) := by rw [mod_succ V i hi, hb, ← pw_add _ _ hs0 (by omega), show s + (i - s) = i by omega]; omega
  refine ⟨by rw [List.length_set, h1], limbs_set h2 _ hx, ?_, ?_⟩
  · rw [hset, h3, e, Int.add_mul_ediv_left _ _ (Int.ne_of_gt (pw_pos s))]
  · rw [h4, show min i s = s by omega, show min (i + 1) s = s by omega]
theorem shr_start (V s : Int) (N : Nat) (hs : 0 ≤ s) : ShrAt V s N 0 (List.replicate N 0) false := by
  refine ⟨by simp, limbs_rep _, ?_, ?_⟩
  · rw [natV_rep, show pw 0 = 1 from rfl, Int.emod_one, Int.zero_ediv]
  · rw [show min 0 s = 0 by omega, show pw 0 = 1 from rfl, Int.emod_one]; simp
theorem shr_end {V s : Int} {N : Nat} {o : List Int} {lost : Bool} (hV : 0 ≤ V) (hlt : V < pw (32 * (N : Int))) (h : ShrAt V s N (32 * (N : Int)) o lost) : natV o = V / pw s ∧ lost = decide (V % pw s ≠ 0) := by
  obtain ⟨h1, h2, h3, h4⟩ := h
  have e := Int.emod_eq_of_lt hV hlt
  rw [e] at h3
  refine ⟨h3, ?_⟩
  rw [h4]
  rcases Int.lt_or_le (32 * (N : Int)) s with c | c
  · rw [show min (32 * (N : Int)) s = 32 * (N : Int) by omega, e]
    have m := pw_mono (a := 32 * (N : Int)) (b := s) (by omega) (by omega)
    rw [Int.emod_eq_of_lt hV (by omega)]
  · rw [show min (32 * (N : Int)) s = s by omega]

/-- A natural, a bool, an error's number 0. -/
def NatBOPost (P : Int → Bool → Prop) (w : World) (e : Ending) (w' : World) : Prop :=
  ∃ A n c l o, e = .returned (.tuple #[.slice A n c, .bool o, .int .i64 0]) ∧ Sl w' w'.heap.size A n c l ∧ Norm l ∧ P (natV l) o ∧ Below w.heap.size w w'

set_option maxHeartbeats 4000000 in
theorem rshr_any (A : Option Addr) (n c : Nat) (a : List Int) (s : Int) (w : World) (h : Sl w w.heap.size A n c a) (hn : n ≤ 256) (s0 : 0 ≤ s) (s1 : s ≤ 9223372036854775807) :
    Calls Try.prog 46 #[.slice A n c, .int .i64 s] w (NatBOPost (fun v o => v = natV a / pw s ∧ o = decide (natV a % pw s ≠ 0)) w) := by
  have HBig := Lib.hid (big_small A n c a w h (by omega))
  have HA := Lib.hid h
  have hle := Lib.hid (show ∀ m : List Int, (∀ x ∈ m, Limb x) → Norm m → natV m = natV a → m.length ≤ n from fun m h1 h2 h3 => norm_len h1 h2 (by rw [h3, ← h.len]; exact natV_lt h.lim))
  clear h
  go_enter Try.func46, Try.ntmps46
  go_wp2_with fail
  refine HBig.out.mono ?_
  rintro e w1 ⟨rfl, hb1⟩
  have HT := Lib.hid (rtrim_any A n c a w1 (HA.out.on hb1) (by omega))
  clear HBig HA
  go_wp2_with fail
  refine HT.out.mono ?_
  rintro e w2 ⟨A2, n2, c2, l2, rfl, hs2, hn2, hv2, fr2, hb2⟩
  have n2b : n2 ≤ n := by have := hle.out l2 hs2.lim hn2 hv2; rw [hs2.len] at this; exact this
  have hB2 : Below w.heap.size w w2 := hb1.trans (hb2.mono hb1.size)
  have V0 := Lib.hid (natV_nonneg hs2.lim)
  have V1 : Hid (natV l2 < pw (32 * (n2 : Int))) := by rw [← hs2.len]; exact natV_lt hs2.lim
  have st0 := Lib.hid (shr_start (natV l2) s n2 s0)
  have hv2h := Lib.hid hv2
  clear hv2 HT hb1 hb2 fr2 hle
  have HS := Lib.hid hs2
  clear hs2 hn2
  go_wp2_with (at_make; refine wpList_mk rfl _ _ rfl w2.heap.size _ _ n2 rfl rfl rfl rfl (by omega) (Nat.le_refl _) ?_; intro w3 hown3 hb3 hz3)
  have hB3 : Below w.heap.size w w3 := hB2.trans (hb3.mono hB2.size)
  have HS3 := Lib.hid (HS.out.below hb3)
  go_loopw [9, 10] (fun lo kk wr => ∃ (k : Nat) (o : List Int) (lost : Bool), kk = .int .i64 (k : Int) ∧ (k : Int) ≤ 32 * (n2 : Int) ∧ lo = .bool lost ∧ wr.ownsRow w2.heap.size 71 1 (.slice (some ⟨w2.heap.size, 0, none⟩) n2 n2) n2 (o.map (Value.int .u32)) ∧ Below w2.heap.size w2 wr ∧ w2.heap.size < wr.heap.size ∧ ShrAt (natV l2) s n2 (k : Int) o lost) (fun _ kk _ => 32 * n2 - (intOf kk).toNat)
  case atStart => exact ⟨0, _, false, rfl, by omega, rfl, hown3, hb3, hz3, st0.out⟩
  case round =>
    obtain ⟨k, o, lost, rfl, hk, rfl, hown, hB, hz, hP⟩ := hrel
    clear hown3 hb3 hz3 st0 HS3 hB3
    have bn : (n2 : Int) ≤ 256 := by omega
    by_cases hlt : (k : Int) < 32 * (n2 : Int)
    · have CB := Lib.hid (bit_any A2 n2 c2 l2 (k : Int) wr ((HS.out.below hB).more hB.size) (by omega) (by omega))
      have hbv : Hid (bitV (natV l2) (k : Int) = decide (natV l2 / pw (k : Int) % 2 = 1)) := rfl
      have Hown := Lib.hid hown
      have hP := Lib.hid hP
      have k0 : (0 : Int) ≤ (k : Int) := by omega
      rcases Bool.eq_false_or_eq_true (bitV (natV l2) (k : Int)) with hb | hb
      · have hb1 : Hid (natV l2 / pw (k : Int) % 2 = 1) := by unfold Hid; rw [hbv.out] at hb; exact of_decide_eq_true hb
        rw [hb] at CB
        by_cases cs : (k : Int) < s
        · have fin := Lib.hid (shr_lost k0 hP.out hb1.out cs)
          have cs2 : ¬ s ≤ (k : Int) := by omega
          clear hown hb1 hbv hb
          go_wp2_with fail
          refine CB.out.mono ?_
          rintro e w' ⟨rfl, rfl⟩
          go_wp2
          go_roundw
          case rel => exact ⟨k + 1, o, true, by go_num, by omega, rfl, Hown.out, hB, hz, fin.out⟩
          case measure => simp [intOf]; omega
        · have cs2 : s ≤ (k : Int) := by omega
          have ql : (((k : Int) - s) / 32).toNat < n2 := by omega
          have cell := row_cell hown (((k : Int) - s) / 32).toNat ql
          have fz : World.frozen? _ ⟨w2.heap.size, (((k : Int) - s) / 32).toNat, none⟩ = false := hown.frozenAt _
          obtain ⟨b1, b2, b3⟩ := natV_setbit hP.out.lim (show 0 ≤ (k : Int) - s by omega) (by rw [hP.out.len]; exact ql) (shr_bit k0 s0 hP.out cs2)
          have fin := Lib.hid (shr_set k0 s0 hP.out hb1.out cs2 b2 b3)
          have Hset := Lib.hid (row_set hown (((k : Int) - s) / 32).toNat (digV o (((k : Int) - s) / 32).toNat + pw (((k : Int) - s) % 32)))
          have B1 := Lib.hid b1
          have d0 : 0 ≤ (k : Int) - s := by omega
          have d1 : (k : Int) - s ≤ 8192 := by omega
          obtain ⟨q, hq⟩ : ∃ q : Nat, (((k : Int) - s) / 32).toNat = q := ⟨_, rfl⟩
          have hq2 : ((k : Int) - s) / 32 = (q : Int) := by omega
          rw [hq] at cell fz b1 b2 Hset B1 fin
          rw [hq] at ql
          have ql2 : (q : Int) < (n2 : Int) := by omega
          have hr0 : 0 ≤ ((k : Int) - s) % 32 := by omega
          have hr1 : ((k : Int) - s) % 32 < 32 := by omega
          have hp : (2 : Int) ^ (((k : Int) - s) % 32).toNat = pw (((k : Int) - s) % 32) := pw_eq _
          have hpl : pw (((k : Int) - s) % 32) < 4294967296 := by
            have := pw_mono (a := ((k : Int) - s) % 32 + 1) (b := 32) (by omega) (by omega)
            have := pw_succ (((k : Int) - s) % 32) (by omega)
            rw [show pw 32 = 4294967296 from rfl] at *; omega
          have hp0 := pw_pos (((k : Int) - s) % 32)
          generalize pw (((k : Int) - s) % 32) = P at *
          generalize digV o q = z at *
          have HS := Lib.hid HS
          clear hown b1 b2 b3 hq hb1 hbv hb
          go_wp2_with fail
          refine CB.out.mono ?_
          rintro e w' ⟨rfl, rfl⟩
          go_wp2
          go_roundw
          case rel => exact ⟨k + 1, _, lost, by go_num, by omega, rfl, by rw [B1.out]; exact Hset.out, hB.setCell (Nat.le_refl _) _, by simpa [World.setCell] using hz, fin.out⟩
          case measure => simp [intOf]; omega
      · have hb0 : Hid (natV l2 / pw (k : Int) % 2 = 0) := by
          rw [hbv.out] at hb
          have := of_decide_eq_false hb
          unfold Hid; omega
        rw [hb] at CB
        have fin := Lib.hid (shr_no k0 hP.out hb0.out)
        clear hown hb0 hbv hb
        go_wp2_with fail
        refine CB.out.mono ?_
        rintro e w' ⟨rfl, rfl⟩
        go_wp2
        go_roundw
        case rel => exact ⟨k + 1, o, lost, by go_num, by omega, rfl, Hown.out, hB, hz, fin.out⟩
        case measure => simp [intOf]; omega
    · have ek : (k : Int) = 32 * (n2 : Int) := by omega
      rw [ek] at hP
      obtain ⟨e1, e2⟩ := shr_end V0.out V1.out hP
      have HT := Lib.hid (rtrim_any _ n2 n2 o wr (row_sl hown hP.lim) (by omega))
      have E1 := Lib.hid e1; have E2 := Lib.hid e2
      clear hown e1 e2 hP HS ek
      go_wp2_with fail
      refine HT.out.mono ?_
      rintro e w6 ⟨A6, n6, c6, l6, rfl, hs6, hn6, hv6, fr6, hb6⟩
      have fin : Hid (NatBOPost (fun v o => v = natV a / pw s ∧ o = decide (natV a % pw s ≠ 0)) w (.returned (.tuple #[.slice A6 n6 c6, .bool lost, .int .i64 0])) w6) :=
        ⟨A6, n6, c6, l6, lost, rfl, hs6, hn6, ⟨by rw [hv6, E1.out, hv2h.out], by rw [← hv2h.out]; exact E2.out⟩, hB2.trans ((hB.trans (hb6.mono hB.size)).mono hB2.size)⟩
      clear hs6 hn6 hv6 fr6 hb6 hB hB2 E1 E2
      go_wp2
      go_ret3
      exact fin.out

set_option maxHeartbeats 1000000 in
theorem r2shr_any (A : Option Addr) (n c : Nat) (a : List Int) (s : Int) (w : World) (h : Sl w w.heap.size A n c a) (hn : n ≤ 256) (s1 : s ≤ 9223372036854775807) :
    Calls Try.prog 23 #[.slice A n c, .int .i64 s] w (NatBPost (fun v o => v = natV a / pw s ∧ o = decide (natV a % pw s ≠ 0)) w) := by
  have main : Hid (∀ t : Int, 0 ≤ t → t ≤ 9223372036854775807 → pw t = pw s → Calls Try.prog 46 #[.slice A n c, .int .i64 t] w (NatBOPost (fun v o => v = natV a / pw s ∧ o = decide (natV a % pw s ≠ 0)) w)) := by
    rintro t t0 t1 et
    rw [← et]
    exact rshr_any A n c a t _ h hn t0 t1
  clear h
  by_cases c2 : s < 0
  all_goals
    go_enter Try.func23, Try.ntmps23
    go_wp2_with fail
    refine (main.out _ (by omega) (by omega) (by first | rfl | (rw [pw_nonpos (show s ≤ 0 by omega)]; rfl))).mono ?_
    rintro e w1 ⟨A1, n1, c1, l1, o1, rfl, hs1, hn1, hp1, hb1⟩
    have fin : Hid (NatBPost (fun v o => v = natV a / pw s ∧ o = decide (natV a % pw s ≠ 0)) w (.returned (.tuple #[.slice A1 n1 c1, .bool o1])) w1) := ⟨A1, n1, c1, l1, o1, rfl, hs1, hn1, hp1, hb1⟩
    clear hs1 hn1 hp1 hb1
    go_wp2
    go_ret2
    exact fin.out

/-- The document's root. -/
def RRootPost (v : Int) (w : World) (e : Ending) (w' : World) : Prop := ∃ r : Int, e = .returned (.int .u64 r) ∧ Word r ∧ r * r ≤ v ∧ v < (r + 1) * (r + 1) ∧ Below w.heap.size w w'
theorem rroot_unique {r s v : Int} (hr : 0 ≤ r) (hs : 0 ≤ s) (h1 : r * r ≤ v) (h2 : v < (r + 1) * (r + 1)) (h3 : s * s ≤ v) (h4 : v < (s + 1) * (s + 1)) : r = s := by
  rcases Int.lt_trichotomy r s with c | c | c
  · have := Int.mul_le_mul (show r + 1 ≤ s by omega) (show r + 1 ≤ s by omega) (by omega) hs; omega
  · exact c
  · have := Int.mul_le_mul (show s + 1 ≤ r by omega) (show s + 1 ≤ r by omega) (by omega) hr; omega
set_option maxHeartbeats 4000000 in
theorem rroot_any (A : Option Addr) (n c : Nat) (a : List Int) (w : World) (h : Sl w w.heap.size A n c a) (hn : n ≤ 8) (hv : natV a < 340282366920938463463374607431768211456) :
    Calls Try.prog 30 #[.slice A n c] w (RRootPost (natV a) w) := by
  have HA := Lib.hid h
  have s0 := Lib.hid (root_start (natV a) (natV_nonneg h.lim) hv)
  clear h hv
  go_enter Try.func30, Try.ntmps30
  go_wp2
  go_loopw [3, 4] (fun v i wr => ∃ k r : Int, i = .int .i64 (63 - k) ∧ 0 ≤ k ∧ k ≤ 64 ∧ v = .int .u64 r ∧ RootAt (natV a) k r ∧ Below w.heap.size w wr) (fun _ i _ => (intOf i + 1).toNat)
  case atStart => exact ⟨0, 0, by go_num, by decide, by decide, rfl, s0.out, Below.refl _ _⟩
  case round =>
    obtain ⟨k, r, rfl, k0, k1, rfl, hP, hB⟩ := hrel
    clear s0
    by_cases hk : k < 64
    · obtain ⟨_, hw⟩ := root_bit k0 hk hP
      obtain ⟨st1, st2⟩ := root_step k0 hk hP
      have HW := Lib.hid hw
      obtain ⟨t0, t1⟩ := hw
      have r0 := hP.w.1
      have hp : (2 : Int) ^ (63 - k).toNat = pw (63 - k) := pw_eq _
      have hp0 := pw_pos (63 - k)
      have ST1 := Lib.hid st1; have ST2 := Lib.hid st2
      have hpl : pw (63 - k) < 18446744073709551616 := by omega
      obtain ⟨j, hj⟩ : ∃ j, 63 - k = j := ⟨_, rfl⟩
      have hjk : k = 63 - j := by omega
      subst hjk
      rw [show 63 - (63 - j) = j by omega] at *
      have j0 : 0 ≤ j := by omega
      have j1 : j ≤ 63 := by omega
      generalize pw j = P at *
      have CN := Lib.hid (rnat_any 0 0 (r + P) (by decide) (by decide) HW.out wr)
      clear st1 st2 hP hj
      go_wp2_with fail
      refine CN.out.mono ?_
      rintro e w2 ⟨A2, n2, c2, l2, rfl, hs2, hn2, hv2, fr2, hb2⟩
      have hv2' : Hid (natV l2 = r + P) := by unfold Hid; rw [hv2]; unfold val3; omega
      have n2b : n2 ≤ 8 := hs2.small hn2 (by rw [hv2'.out]; omega)
      have hB2 : Below w.heap.size w w2 := hB.trans (hb2.mono hB.size)
      clear hv2 fr2 hb2 hB CN
      go_wp2_with fail
      refine (rtimes_any A2 A2 n2 n2 c2 c2 l2 l2 w2 hs2 hs2 (by omega) (by omega)).mono ?_
      rintro e w3 ⟨A3, n3, c3, l3, rfl, hs3, hn3, hv3, fr3, hb3⟩
      have hv3' : Hid (natV l3 = (r + P) * (r + P)) := by unfold Hid; rw [hv3, hv2'.out]
      have n3b : n3 ≤ 8 := hs3.small hn3 (by rw [hv3'.out]; have := (mul_bd _ _ HW.out HW.out).2; omega)
      have hB3 : Below w.heap.size w w3 := hB2.trans (hb3.mono hB2.size)
      clear hv3 fr3 hb3 hB2 hs2 hn2
      go_wp2_with fail
      refine (rcmp_any A3 A n3 n c3 c l3 a w3 hs3 (HA.out.on hB3) (by omega) (by omega)).mono ?_
      rintro e w4 ⟨rfl, hb4⟩
      have hB4 : Below w.heap.size w w4 := hB3.trans (hb4.mono hB3.size)
      have hle := cmpI_le (natV l3) (natV a)
      rw [hv3'.out] at hle ⊢
      obtain ⟨cr, hcr⟩ : ∃ cr, cmpI ((r + P) * (r + P)) (natV a) = cr := ⟨_, rfl⟩
      rw [hcr] at hle ⊢
      have HLE := Lib.hid hle
      clear hcr hle hs3 hn3 hb4 hB3
      by_cases cc : cr ≤ 0
      · have fin := Lib.hid (ST1.out (HLE.out.1 cc))
        have kk : Hid (63 - j + 1 = 63 - (j - 1)) := by unfold Hid; omega
        rw [kk.out] at fin
        clear HLE ST1 ST2
        go_wp2
        go_roundw
        case rel => exact ⟨63 - (j - 1), r + P, by rw [show 63 - (63 - (j - 1)) = j - 1 by omega], by omega, by omega, rfl, fin.out, hB4⟩
        case measure => simp [intOf]; omega
      · have fin := Lib.hid (ST2.out (by have := mt HLE.out.2 cc; omega))
        have kk : Hid (63 - j + 1 = 63 - (j - 1)) := by unfold Hid; omega
        rw [kk.out] at fin
        clear HLE ST1 ST2
        go_wp2
        go_roundw
        case rel => exact ⟨63 - (j - 1), r, by rw [show 63 - (63 - (j - 1)) = j - 1 by omega], by omega, by omega, rfl, fin.out, hB4⟩
        case measure => simp [intOf]; omega
    · have ek : k = 64 := by omega
      subst ek
      obtain ⟨p1, p2, p3, p4⟩ := hP
      have P1 := Lib.hid p1
      have P3 := Lib.hid p3
      have P4 : Hid (natV a < (r + 1) * (r + 1)) := p4
      clear p1 p2 p3 p4 HA
      go_wp2
      go_ret
      exact ⟨r, rfl, P1.out, P3.out, P4.out, hB⟩
end Go.Proofs.Ytogldkjhcmlneaa
