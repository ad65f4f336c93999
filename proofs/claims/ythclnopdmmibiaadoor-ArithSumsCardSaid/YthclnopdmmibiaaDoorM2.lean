/-
  The document's answers to layer 4: Add, Sub, Mul.
-/
import Derived.Test.YthclnopdmmibiaaDoorM1
import Derived.Test.YthclnopdmmibiaaDoorA7
namespace Go.Proofs.YthclnopdmmibiaaDoor
open Go.RowKit Go.Shelf

theorem XI_lt2 (x : Int) (h : Word x) : XI x < pw 2098 := by
  obtain ⟨m0, m1, p0, p1⟩ := mant_bd x h
  have a := pw_mono (a := powI x + 1074) (b := 2045) (by omega) (by omega)
  have e : pw 2098 = pw 53 * pw 2045 := by rw [← pw_add 53 2045 (by decide) (by decide)]; rfl
  have hp := pw_pos (powI x + 1074)
  unfold XI
  rw [e, show pw 53 = 9007199254740992 from rfl]
  have b : mantI x * pw (powI x + 1074) ≤ mantI x * pw 2045 := Int.mul_le_mul_of_nonneg_left a m0
  have c : (mantI x + 1) * pw 2045 ≤ 9007199254740992 * pw 2045 := Int.mul_le_mul_of_nonneg_right (by omega) (Int.le_of_lt (pw_pos _))
  have d := pw_pos 2045
  rw [Int.add_mul] at c
  omega
theorem XI_len {w : World} {B : Nat} {A : Option Addr} {n c : Nat} {l : List Int} {x : Int} (h : Sl w B A n c l) (hn : Norm l) (hx : Word x) (hv : natV l = XI x) : n ≤ 66 := by
  rw [← h.len]
  refine norm_len h.lim hn ?_
  have a := XI_lt2 x hx
  have b := pw_mono (a := 2098) (b := 32 * ((66 : Nat) : Int)) (by decide) (by decide)
  rw [hv]; omega
theorem sum_len {w : World} {B : Nat} {A : Option Addr} {n c : Nat} {l : List Int} {a b : Int} {s : Bool} (h : Sl w B A n c l) (hn : Norm l) (h1 : Word a) (h2 : Word b) (hv : IsSum (sX a + sX b) s (natV l)) : n ≤ 66 := by
  rw [← h.len]
  refine norm_len h.lim hn ?_
  have p := XI_lt2 a h1
  have q := XI_lt2 b h2
  have p0 := XI_nonneg a h1
  have q0 := XI_nonneg b h2
  have e := hv.e
  have d := pw_succ 2098 (by decide)
  have f := pw_mono (a := 2098 + 1) (b := 32 * ((66 : Nat) : Int)) (by decide) (by decide)
  have bd : natV l ≤ XI a + XI b := by
    unfold sX at e
    cases s <;> simp at e <;> (split at e <;> split at e <;> omega)
  omega

set_option maxRecDepth 100000 in
set_option maxHeartbeats 8000000 in
theorem radd_any (a b : Int) (h1 : Word a) (h2 : Word b) (w : World) : Calls Tryd.prog 8 #[.int .u64 a, .int .u64 b] w (WordPost (addV a b) w) := by
  obtain ⟨k, hk⟩ : ∃ z, kindI a = z := ⟨_, rfl⟩
  obtain ⟨j, hj⟩ : ∃ z, kindI b = z := ⟨_, rfl⟩
  have bk := kind_bd a
  have bj := kind_bd b
  rw [hk] at bk; rw [hj] at bj
  have KA := Lib.hid (fun W => rkind_vars a k h1 hk W)
  have KB := Lib.hid (fun W => rkind_vars b j h2 hj W)
  have HK := Lib.hid hk; have HJ := Lib.hid hj
  have H1 := Lib.hid h1; have H2 := Lib.hid h2
  obtain ⟨r, hr⟩ : ∃ z, addV a b = z := ⟨_, rfl⟩
  have AV : Hid (addK k j a b = r) := by rw [← hr]; unfold Hid addV; rw [hk, hj]
  have HR := Lib.hid hr
  rw [hr]
  clear hk hj h1 h2 hr
  by_cases k4 : k = 4
  · have fin : Hid (r = 9221120237041090560) := by unfold Hid; rw [← AV.out]; unfold addK; rw [if_pos (.inl k4)]
    have t1 : (k == 4) = true := by simpa using k4
    clear AV HR
    go_enter Tryd.func8, Tryd.ntmps8
    go_wp2_with (first | (go_at_call_of 17 (Value.int IntKind.u64 a); refine (KA.out _).mono ?_; rintro e w' ⟨rfl, rfl⟩) | (go_at_call_of 17 (Value.int IntKind.u64 b); refine (KB.out _).mono ?_; rintro e w' ⟨rfl, rfl⟩))
    go_ret
    exact ⟨by rw [fin.out]; rfl, Below.refl _ _⟩
  have t1 : (k == 4) = false := by simpa using k4
  by_cases j4 : j = 4
  · have fin : Hid (r = 9221120237041090560) := by unfold Hid; rw [← AV.out]; unfold addK; rw [if_pos (.inr j4)]
    have t2 : (j == 4) = true := by simpa using j4
    clear AV HR
    go_enter Tryd.func8, Tryd.ntmps8
    go_wp2_with (first | (go_at_call_of 17 (Value.int IntKind.u64 a); refine (KA.out _).mono ?_; rintro e w' ⟨rfl, rfl⟩) | (go_at_call_of 17 (Value.int IntKind.u64 b); refine (KB.out _).mono ?_; rintro e w' ⟨rfl, rfl⟩))
    go_ret
    exact ⟨by rw [fin.out]; rfl, Below.refl _ _⟩
  have t2 : (j == 4) = false := by simpa using j4
  by_cases k3 : k = 3
  · have t3 : (k == 3) = true := by simpa using k3
    by_cases j3 : j = 3
    · have t4 : (j == 3) = true := by simpa using j3
      by_cases ab : a = b
      · have fin : Hid (r = a) := by unfold Hid; rw [← AV.out]; unfold addK; rw [if_neg (by omega), if_pos k3, if_pos j3, if_pos ab]
        subst ab
        have t5 : (a != a) = false := by simp
        clear AV HR KB
        subst k3
        go_enter Tryd.func8, Tryd.ntmps8
        go_wp2_with (go_at_call 17; refine (KA.out _).mono ?_; rintro e w' ⟨rfl, rfl⟩)
        go_ret
        exact ⟨by rw [fin.out]; rfl, Below.refl _ _⟩
      · have t5 : (a != b) = true := by simpa using ab
        have fin : Hid (r = 9221120237041090560) := by unfold Hid; rw [← AV.out]; unfold addK; rw [if_neg (by omega), if_pos k3, if_pos j3, if_neg ab]
        have ab := Lib.hid ab
        clear AV HR
        go_enter Tryd.func8, Tryd.ntmps8
        go_wp2_with (first | (go_at_call_of 17 (Value.int IntKind.u64 a); refine (KA.out _).mono ?_; rintro e w' ⟨rfl, rfl⟩) | (go_at_call_of 17 (Value.int IntKind.u64 b); refine (KB.out _).mono ?_; rintro e w' ⟨rfl, rfl⟩))
        go_ret
        exact ⟨by rw [fin.out]; rfl, Below.refl _ _⟩
    · have t4 : (j == 3) = false := by simpa using j3
      have fin : Hid (r = a) := by unfold Hid; rw [← AV.out]; unfold addK; rw [if_neg (by omega), if_pos k3, if_neg j3]
      clear AV HR
      go_enter Tryd.func8, Tryd.ntmps8
      go_wp2_with (first | (go_at_call_of 17 (Value.int IntKind.u64 a); refine (KA.out _).mono ?_; rintro e w' ⟨rfl, rfl⟩) | (go_at_call_of 17 (Value.int IntKind.u64 b); refine (KB.out _).mono ?_; rintro e w' ⟨rfl, rfl⟩))
      go_ret
      exact ⟨by rw [fin.out]; rfl, Below.refl _ _⟩
  have t3 : (k == 3) = false := by simpa using k3
  by_cases j3 : j = 3
  · have t4 : (j == 3) = true := by simpa using j3
    have fin : Hid (r = b) := by unfold Hid; rw [← AV.out]; unfold addK; rw [if_neg (by omega), if_neg k3, if_pos j3]
    clear AV HR
    go_enter Tryd.func8, Tryd.ntmps8
    go_wp2_with (first | (go_at_call_of 17 (Value.int IntKind.u64 a); refine (KA.out _).mono ?_; rintro e w' ⟨rfl, rfl⟩) | (go_at_call_of 17 (Value.int IntKind.u64 b); refine (KB.out _).mono ?_; rintro e w' ⟨rfl, rfl⟩))
    go_ret
    exact ⟨by rw [fin.out]; rfl, Below.refl _ _⟩
  have t4 : (j == 3) = false := by simpa using j3
  by_cases z : k = 0 ∧ j = 0
  · have t5 : (k == 0) = true := by simpa using z.1
    have t6 : (j == 0) = true := by simpa using z.2
    have fin : Hid (r = signI (negB a && negB b)) := by unfold Hid; rw [← HR.out]; exact add_zeros H1.out H2.out (HK.out.trans z.1) (HJ.out.trans z.2)
    have IA := Lib.hid (fun W => ris_any a W)
    have IB := Lib.hid (fun W => ris_any b W)
    have z := Lib.hid z
    generalize negB a = na at *
    generalize negB b = nb at *
    clear AV HR
    cases na <;> cases nb
    all_goals
      go_enter Tryd.func8, Tryd.ntmps8
      go_wp2_with (first | (go_at_call_of 17 (Value.int IntKind.u64 a); refine (KA.out _).mono ?_; rintro e w' ⟨rfl, rfl⟩) | (go_at_call_of 17 (Value.int IntKind.u64 b); refine (KB.out _).mono ?_; rintro e w' ⟨rfl, rfl⟩) | (go_at_call_of 19 (Value.int IntKind.u64 a); refine (IA.out _).mono ?_; rintro e w' ⟨rfl, rfl⟩) | (go_at_call_of 19 (Value.int IntKind.u64 b); refine (IB.out _).mono ?_; rintro e w' ⟨rfl, rfl⟩) | (go_at_call 18; refine (zero_any _ _).mono ?_; rintro e w' ⟨rfl, rfl⟩))
      go_ret
      exact ⟨by rw [fin.out]; rfl, Below.refl _ _⟩
  have fin : Hid (r = R (sX a + sX b)) := by unfold Hid; rw [← HR.out]; exact add_finite H1.out H2.out (by rw [HK.out]; omega) (by rw [HJ.out]; omega) (by rw [HK.out, HJ.out]; exact z)
  have EA := Lib.hid (fun W => exact_any a H1.out W)
  have EB := Lib.hid (fun W => exact_any b H2.out W)
  clear AV HR
  by_cases k0 : k = 0
  · have t5 : (k == 0) = true := by simpa using k0
    have j0 : j ≠ 0 := fun q => z ⟨k0, q⟩
    have t6 : (j == 0) = false := by simpa using j0
    go_enter Tryd.func8, Tryd.ntmps8
    go_wp2_with fail
    refine (KA.out _).mono ?_
    rintro e w' ⟨rfl, rfl⟩
    go_wp2_with fail
    refine (KB.out _).mono ?_
    rintro e w' ⟨rfl, rfl⟩
    go_wp2_with fail
    refine (EA.out _).mono ?_
    rintro e w1 ⟨s1, A1, n1, c1, l1, rfl, hs1, hn1, ⟨rfl, hv1⟩, hb1⟩
    have n1b := XI_len hs1 hn1 H1.out hv1
    have hv1 := Lib.hid hv1
    go_wp2_with fail
    refine (EB.out _).mono ?_
    rintro e w2 ⟨s2, A2, n2, c2, l2, rfl, hs2, hn2, ⟨rfl, hv2⟩, hb2⟩
    have n2b := XI_len hs2 hn2 H2.out hv2
    have hv2 := Lib.hid hv2
    have hs1 := hs1.on hb2
    have hB2 := hb1.trans (hb2.mono hb1.size)
    go_wp2_with fail
    refine (signed_any a b H1.out H2.out A1 A2 n1 n2 c1 c2 l1 l2 _ hs1 hs2 (by omega) (by omega) hv1.out hv2.out).mono ?_
    rintro e w3 ⟨s3, A3, n3, c3, l3, rfl, hs3, hn3, hp3, hb3⟩
    have n3b := sum_len hs3 hn3 H1.out H2.out hp3
    have hB3 := hB2.trans (hb3.mono hB2.size)
    have hp3 := Lib.hid hp3
    have H3 := Lib.hid hs3
    have n3c : (n3 : Int) ≤ 66 := by omega
    clear hb1 hb2 hb3 hs1 hs2 hn1 hn2 EA EB hB2
    by_cases nz : n3 = 0
    · have nz1 : ((n3 : Int) == 0) = true := by simp [nz]
      have fin2 : Hid (r = 0) := by
        have e : l3 = [] := List.eq_nil_of_length_eq_zero (by rw [H3.out.len]; exact nz)
        have hq := hp3.out
        rw [e] at hq
        unfold Hid; rw [fin.out]; exact sum_zero hq
      have nz := Lib.hid nz
      clear hs3 hn3
      go_wp2
      go_ret
      exact ⟨by rw [fin2.out]; rfl, hB3.alloc hB3.size _⟩
    · have nz1 : ((n3 : Int) == 0) = false := by simpa using nz
      have vz : natV l3 ≠ 0 := fun q => nz (by rw [← hs3.len, norm_zero hs3.lim hn3 q]; rfl)
      have CR := Lib.hid (fun (W : World) (hW : Below w3.heap.size w3 W) => rround_len s3 A3 n3 c3 l3 (-1074) W (hs3.on hW) (by omega) (by decide) (by decide) rfl ((sum_round hp3.out vz).symm.trans fin.out.symm))
      clear hs3 hn3 vz nz
      go_wp2_with fail
      refine (CR.out _ (below_new _ _)).mono ?_
      rintro e w4 ⟨rfl, hb4⟩
      have hB4 : Below w.heap.size w w4 := (hB3.alloc hB3.size _).trans (hb4.mono (by have := hB3.size; simp; omega))
      go_wp2
      go_ret
      exact ⟨rfl, hB4⟩
  · have t5 : (k == 0) = false := by simpa using k0
    go_enter Tryd.func8, Tryd.ntmps8
    go_wp2_with fail
    refine (KA.out _).mono ?_
    rintro e w' ⟨rfl, rfl⟩
    go_wp2_with fail
    refine (KB.out _).mono ?_
    rintro e w' ⟨rfl, rfl⟩
    go_wp2_with fail
    refine (EA.out _).mono ?_
    rintro e w1 ⟨s1, A1, n1, c1, l1, rfl, hs1, hn1, ⟨rfl, hv1⟩, hb1⟩
    have n1b := XI_len hs1 hn1 H1.out hv1
    have hv1 := Lib.hid hv1
    go_wp2_with fail
    refine (EB.out _).mono ?_
    rintro e w2 ⟨s2, A2, n2, c2, l2, rfl, hs2, hn2, ⟨rfl, hv2⟩, hb2⟩
    have n2b := XI_len hs2 hn2 H2.out hv2
    have hv2 := Lib.hid hv2
    have hs1 := hs1.on hb2
    have hB2 := hb1.trans (hb2.mono hb1.size)
    go_wp2_with fail
    refine (signed_any a b H1.out H2.out A1 A2 n1 n2 c1 c2 l1 l2 _ hs1 hs2 (by omega) (by omega) hv1.out hv2.out).mono ?_
    rintro e w3 ⟨s3, A3, n3, c3, l3, rfl, hs3, hn3, hp3, hb3⟩
    have n3b := sum_len hs3 hn3 H1.out H2.out hp3
    have hB3 := hB2.trans (hb3.mono hB2.size)
    have hp3 := Lib.hid hp3
    have H3 := Lib.hid hs3
    have n3c : (n3 : Int) ≤ 66 := by omega
    clear hb1 hb2 hb3 hs1 hs2 hn1 hn2 EA EB hB2
    by_cases nz : n3 = 0
    · have nz1 : ((n3 : Int) == 0) = true := by simp [nz]
      have fin2 : Hid (r = 0) := by
        have e : l3 = [] := List.eq_nil_of_length_eq_zero (by rw [H3.out.len]; exact nz)
        have hq := hp3.out
        rw [e] at hq
        unfold Hid; rw [fin.out]; exact sum_zero hq
      have nz := Lib.hid nz
      clear hs3 hn3
      go_wp2
      go_ret
      exact ⟨by rw [fin2.out]; rfl, hB3.alloc hB3.size _⟩
    · have nz1 : ((n3 : Int) == 0) = false := by simpa using nz
      have vz : natV l3 ≠ 0 := fun q => nz (by rw [← hs3.len, norm_zero hs3.lim hn3 q]; rfl)
      have CR := Lib.hid (fun (W : World) (hW : Below w3.heap.size w3 W) => rround_len s3 A3 n3 c3 l3 (-1074) W (hs3.on hW) (by omega) (by decide) (by decide) rfl ((sum_round hp3.out vz).symm.trans fin.out.symm))
      clear hs3 hn3 vz nz
      go_wp2_with fail
      refine (CR.out _ (below_new _ _)).mono ?_
      rintro e w4 ⟨rfl, hb4⟩
      have hB4 : Below w.heap.size w w4 := (hB3.alloc hB3.size _).trans (hb4.mono (by have := hB3.size; simp; omega))
      go_wp2
      go_ret
      exact ⟨rfl, hB4⟩

theorem negV_word (b : Int) (h : Word b) : Word (negI b) := neg_word b h
set_option maxHeartbeats 400000 in
theorem rsub_any4 (a b : Int) (h1 : Word a) (h2 : Word b) (w : World) : Calls Tryd.prog 10 #[.int .u64 a, .int .u64 b] w (WordPost (subV a b) w) := by
  obtain ⟨c, hc⟩ : ∃ z, negI b = z := ⟨_, rfl⟩
  have N := Lib.hid (fun w => rneg_vars b c h2 hc w)
  have A := Lib.hid (radd_any a c h1 (by rw [← hc]; exact neg_word b h2) w)
  unfold subV
  rw [hc]
  clear hc h1 h2
  go_enter Tryd.func10, Tryd.ntmps10
  go_wp2_with fail
  refine (N.out _).mono ?_
  rintro e w' ⟨rfl, rfl⟩
  go_wp2_with fail
  refine A.out.mono ?_
  rintro e w' ⟨rfl, hb⟩
  go_wp2
  go_ret
  exact ⟨rfl, hb⟩

set_option maxRecDepth 100000 in
set_option maxHeartbeats 2000000 in
theorem addsl_any (a b : Int) (h1 : Word a) (h2 : Word b) (w : World) (hT : Tabs w) : Calls Tryd.prog 3 #[.int .u64 a, .int .u64 b] w (TruePost w) := by
  obtain ⟨p, hp⟩ : ∃ z, addV a b = z := ⟨_, rfl⟩
  obtain ⟨q, hq⟩ : ∃ z, subV a b = z := ⟨_, rfl⟩
  have C1 := Lib.hid (fun W (hW : Below w.heap.size w W) => plus_any a b h1 h2 W (hT.below hW))
  have C2 := Lib.hid (fun W => radd_any a b h1 h2 W)
  have C3 := Lib.hid (fun W (hW : Below w.heap.size w W) => minus_any a b h1 h2 W (hT.below hW))
  have C4 := Lib.hid (fun W => rsub_any4 a b h1 h2 W)
  rw [hp] at C1 C2
  rw [hq] at C3 C4
  have HT := Lib.hid hT
  clear hp hq h1 h2 hT
  go_enter Tryd.func3, Tryd.ntmps3
  go_wp2_with fail
  refine (shown4_any _ HT.out).mono ?_
  rintro e w1 ⟨rfl, hb1⟩
  go_wp2_with fail
  refine (C1.out _ hb1).mono ?_
  rintro e w2 ⟨rfl, hb2⟩
  have hB2 := hb1.trans (hb2.mono hb1.size)
  go_wp2_with fail
  refine (C2.out _).mono ?_
  rintro e w3 ⟨rfl, hb3⟩
  have hB3 := hB2.trans (hb3.mono hB2.size)
  go_wp2_with fail
  refine (C3.out _ hB3).mono ?_
  rintro e w4 ⟨rfl, hb4⟩
  have hB4 := hB3.trans (hb4.mono hB3.size)
  go_wp2_with fail
  refine (C4.out _).mono ?_
  rintro e w5 ⟨rfl, hb5⟩
  have hB5 := hB4.trans (hb5.mono hB4.size)
  go_wp2
  go_ret
  exact ⟨by simp, hB5⟩
end Go.Proofs.YthclnopdmmibiaaDoor
