/-
  root.Fma: walked.
-/
import Derived.Test.YtnefacnceemklaaDoorK6
namespace Go.Proofs.YtnefacnceemklaaDoor
open Go.RowKit Go.Shelf

theorem kind_sI (s : Bool) : kindI (signI s + 9218868437227405312) = 3 ∧ kindI (signI s) = 0 ∧ negB (signI s) = s ∧ Word (signI s) ∧ Word (signI s + 9218868437227405312) := by
  cases s <;> exact ⟨by decide, by decide, by decide, by decide, by decide⟩
theorem inf_self {x : Int} (h : Word x) (hk : kindI x = 3) : x = signI (negB x) + 9218868437227405312 := by
  have a := sign_abs x h
  have : absI x = 9218868437227405312 := by unfold kindI at hk; (repeat' split at hk) <;> omega
  rw [this] at a; exact a.symm
theorem fma_inf {a b c : Int} (_h1 : Word a) (_h2 : Word b) (h3 : Word c) (h : kindI a = 3 ∨ kindI b = 3) : addV (mulV a b) c = fmaV a b c := by
  obtain ⟨k, hk⟩ : ∃ z, kindI a = z := ⟨_, rfl⟩
  obtain ⟨j, hj⟩ : ∃ z, kindI b = z := ⟨_, rfl⟩
  obtain ⟨l, hl⟩ : ∃ z, kindI c = z := ⟨_, rfl⟩
  obtain ⟨s, hs⟩ : ∃ z, (negB a != negB b) = z := ⟨_, rfl⟩
  have k4 : kindI 9221120237041090560 = 4 := by decide
  have C := inf_self h3
  rw [hl] at C
  unfold fmaV mulV mulK
  rw [hk, hj, hl, hs]
  rw [hk, hj] at h
  unfold fmaK
  by_cases n1 : k = 4 ∨ j = 4 ∨ (k = 3 ∧ j = 0) ∨ (k = 0 ∧ j = 3)
  · rw [if_pos n1, if_pos (by omega)]
    unfold addV addK
    rw [k4, if_pos (.inl rfl)]
  · rw [if_neg n1, if_pos h]
    unfold addV addK
    rw [(kind_sI s).1, hl]
    by_cases l4 : l = 4
    · rw [if_pos (.inr l4), if_pos (by omega)]
    · rw [if_neg (by omega), if_pos rfl]
      by_cases l3 : l = 3
      · rw [if_pos l3]
        have cc := C l3
        obtain ⟨u, hu⟩ : ∃ z, negB c = z := ⟨_, rfl⟩
        rw [hu] at cc ⊢
        by_cases e : u = s
        · have n2 : ¬ (k = 4 ∨ j = 4 ∨ l = 4 ∨ ((k = 3 ∨ j = 3) ∧ (k = 0 ∨ j = 0)) ∨ ((k = 3 ∨ j = 3) ∧ l = 3 ∧ u ≠ s)) := by
            rintro (g | g | g | g | ⟨_, _, g⟩)
            · omega
            · omega
            · omega
            · omega
            · exact g e
          rw [if_pos (by rw [← e]; exact cc.symm), if_neg n2, if_pos h]
        · have n2 : (k = 4 ∨ j = 4 ∨ l = 4 ∨ ((k = 3 ∨ j = 3) ∧ (k = 0 ∨ j = 0)) ∨ ((k = 3 ∨ j = 3) ∧ l = 3 ∧ u ≠ s)) := .inr (.inr (.inr (.inr ⟨h, l3, e⟩)))
          rw [if_neg, if_pos n2]
          intro q
          rw [cc] at q
          cases s <;> cases u <;> first | exact e rfl | exact absurd q (by decide)
      · rw [if_neg l3, if_neg (by omega), if_pos h]
theorem fma_zeros {a b c : Int} (h3 : Word c) (ka : kindI a < 3) (kb : kindI b < 3) (h : kindI a = 0 ∨ kindI b = 0) (hl : kindI c = 0) : addV (mulV a b) c = fmaV a b c := by
  have e : mulV a b = signI (negB a != negB b) := by
    unfold mulV mulK
    rw [if_neg (by omega), if_neg (by omega), if_pos h]
  obtain ⟨_, x2, x3, x4, _⟩ := kind_sI (negB a != negB b)
  rw [e, add_zeros x4 h3 x2 hl, x3]
  unfold fmaV fmaK
  rw [hl, if_neg (by omega), if_neg (by omega), if_neg (by omega), if_pos h, if_pos rfl]
theorem mul_word {a b : Int} (h1 : Word a) (h2 : Word b) : Word (mulV a b) := by
  unfold mulV mulK
  obtain ⟨_, _, _, x4, x5⟩ := kind_sI (negB a != negB b)
  split
  · decide
  · split
    · exact x5
    · split
      · exact x4
      · rw [rnd_neg]
        have := rnd_bd (powI a + powI b) (Int.mul_nonneg (mant_bd a h1).1 (mant_bd b h2).1)
        generalize (negB a != negB b) = s
        cases s <;> simp only [signI, Word] <;> simp <;> omega
set_option maxRecDepth 100000 in
set_option maxHeartbeats 8000000 in
theorem fma5_any (a b c : Int) (h1 : Word a) (h2 : Word b) (h3 : Word c) (w : World) (hT : Tabs w) : Calls Tryd.prog 18 #[.int .u64 a, .int .u64 b, .int .u64 c] w (WordPost (fmaV a b c) w) := by
  obtain ⟨k, hk⟩ : ∃ z, kindI a = z := ⟨_, rfl⟩
  obtain ⟨j, hj⟩ : ∃ z, kindI b = z := ⟨_, rfl⟩
  obtain ⟨l, hl⟩ : ∃ z, kindI c = z := ⟨_, rfl⟩
  have bk := kind_bd a
  have bj := kind_bd b
  have bl := kind_bd c
  rw [hk] at bk; rw [hj] at bj; rw [hl] at bl
  have KA := Lib.hid (fun W => kind_vars a k h1 hk W)
  have KB := Lib.hid (fun W => kind_vars b j h2 hj W)
  have KC := Lib.hid (fun W => kind_vars c l h3 hl W)
  have ML := Lib.hid (times_any a b h1 h2 w hT)
  have HT := Lib.hid hT
  have AD := Lib.hid (fun W (h : Tabs W) => plus_any (mulV a b) c (mul_word h1 h2) h3 W h)
  have VI := Lib.hid (fun h : k = 3 ∨ j = 3 => fma_inf h1 h2 h3 (by rw [hk, hj]; exact h))
  have VZ := Lib.hid (fun (h : k < 3) (h' : j < 3) (hz : k = 0 ∨ j = 0) (h0 : l = 0) => fma_zeros h3 (by rw [hk]; exact h) (by rw [hj]; exact h') (by rw [hk, hj]; exact hz) (by rw [hl]; exact h0))
  have FV : Hid (fmaV a b c = fmaK k j l (negB a != negB b) (negB c) c (R2 (sgn (negB a != negB b) (XI a * XI b) + sgn (negB c) (XI c * pw 1074)))) := by unfold Hid fmaV; rw [hk, hj, hl]
  have FU := Lib.hid (fun (p : k < 3 ∧ k ≠ 0 ∧ j < 3 ∧ j ≠ 0) W => fused_any a b c h1 h2 h3 (fun e => nz_of_kind h1 (by omega) (by omega) ((mant_zero a h1 (fin_of_kind h1 (by omega))).1 e)) (fun e => nz_of_kind h2 (by omega) (by omega) ((mant_zero b h2 (fin_of_kind h2 (by omega))).1 e)) W)
  generalize fmaV a b c = v at *
  generalize R2 (sgn (negB a != negB b) (XI a * XI b) + sgn (negB c) (XI c * pw 1074)) = q at *
  generalize mulV a b = m at *
  generalize addV m c = ad at *
  generalize (negB a != negB b) = s at *
  generalize negB c = t at *
  clear h1 h2 h3 hk hj hl hT
  by_cases k3 : k = 3
  · have tk : (k == 3) = true := by simpa using k3
    have fin := Lib.hid (VI.out (.inl k3)).symm
    clear VI VZ FV FU bk bj bl
    go_enter Tryd.func18, Tryd.ntmps18
    go_wp2_with (first | (go_at_call_of 34 (Value.int IntKind.u64 a); refine (KA.out _).mono ?_; rintro e w' ⟨rfl, rfl⟩) | (go_at_call_of 34 (Value.int IntKind.u64 b); refine (KB.out _).mono ?_; rintro e w' ⟨rfl, rfl⟩) | (go_at_call_of 34 (Value.int IntKind.u64 c); refine (KC.out _).mono ?_; rintro e w' ⟨rfl, rfl⟩))
    refine ML.out.mono ?_
    rintro en w1 ⟨rfl, hb1⟩
    have PL := Lib.hid (AD.out w1 (HT.out.below hb1))
    go_wp2_with fail
    refine PL.out.mono ?_
    rintro en w2 ⟨rfl, hb2⟩
    have hB2 := hb1.trans (hb2.mono hb1.size)
    go_wp2
    go_ret
    exact ⟨by rw [fin.out]; rfl, hB2⟩
  have tk : (k == 3) = false := by simpa using k3
  by_cases j3 : j = 3
  · have tj : (j == 3) = true := by simpa using j3
    have fin := Lib.hid (VI.out (.inr j3)).symm
    clear VI VZ FV FU bk bj bl
    go_enter Tryd.func18, Tryd.ntmps18
    go_wp2_with (first | (go_at_call_of 34 (Value.int IntKind.u64 a); refine (KA.out _).mono ?_; rintro e w' ⟨rfl, rfl⟩) | (go_at_call_of 34 (Value.int IntKind.u64 b); refine (KB.out _).mono ?_; rintro e w' ⟨rfl, rfl⟩) | (go_at_call_of 34 (Value.int IntKind.u64 c); refine (KC.out _).mono ?_; rintro e w' ⟨rfl, rfl⟩))
    refine ML.out.mono ?_
    rintro en w1 ⟨rfl, hb1⟩
    have PL := Lib.hid (AD.out w1 (HT.out.below hb1))
    go_wp2_with fail
    refine PL.out.mono ?_
    rintro en w2 ⟨rfl, hb2⟩
    have hB2 := hb1.trans (hb2.mono hb1.size)
    go_wp2
    go_ret
    exact ⟨by rw [fin.out]; rfl, hB2⟩
  have tj : (j == 3) = false := by simpa using j3
  by_cases n : k = 4 ∨ j = 4 ∨ l = 4
  · have fin : Hid (v = 9221120237041090560) := by unfold Hid; rw [FV.out]; unfold fmaK; rw [if_pos (by omega)]
    clear VI VZ FV FU bk bj bl AD
    by_cases k4 : k = 4
    · have tk4 : (k == 4) = true := by simpa using k4
      go_enter Tryd.func18, Tryd.ntmps18
      go_wp2_with (first | (go_at_call_of 34 (Value.int IntKind.u64 a); refine (KA.out _).mono ?_; rintro e w' ⟨rfl, rfl⟩) | (go_at_call_of 34 (Value.int IntKind.u64 b); refine (KB.out _).mono ?_; rintro e w' ⟨rfl, rfl⟩) | (go_at_call_of 34 (Value.int IntKind.u64 c); refine (KC.out _).mono ?_; rintro e w' ⟨rfl, rfl⟩))
      refine ML.out.mono ?_
      rintro en w1 ⟨rfl, hb1⟩
      go_wp2
      go_ret
      exact ⟨by rw [fin.out]; rfl, hb1⟩
    have tk4 : (k == 4) = false := by simpa using k4
    by_cases j4 : j = 4
    · have tj4 : (j == 4) = true := by simpa using j4
      go_enter Tryd.func18, Tryd.ntmps18
      go_wp2_with (first | (go_at_call_of 34 (Value.int IntKind.u64 a); refine (KA.out _).mono ?_; rintro e w' ⟨rfl, rfl⟩) | (go_at_call_of 34 (Value.int IntKind.u64 b); refine (KB.out _).mono ?_; rintro e w' ⟨rfl, rfl⟩) | (go_at_call_of 34 (Value.int IntKind.u64 c); refine (KC.out _).mono ?_; rintro e w' ⟨rfl, rfl⟩))
      refine ML.out.mono ?_
      rintro en w1 ⟨rfl, hb1⟩
      go_wp2
      go_ret
      exact ⟨by rw [fin.out]; rfl, hb1⟩
    have tj4 : (j == 4) = false := by simpa using j4
    have tl4 : (l == 4) = true := by simp; omega
    go_enter Tryd.func18, Tryd.ntmps18
    go_wp2_with (first | (go_at_call_of 34 (Value.int IntKind.u64 a); refine (KA.out _).mono ?_; rintro e w' ⟨rfl, rfl⟩) | (go_at_call_of 34 (Value.int IntKind.u64 b); refine (KB.out _).mono ?_; rintro e w' ⟨rfl, rfl⟩) | (go_at_call_of 34 (Value.int IntKind.u64 c); refine (KC.out _).mono ?_; rintro e w' ⟨rfl, rfl⟩))
    refine ML.out.mono ?_
    rintro en w1 ⟨rfl, hb1⟩
    go_wp2
    go_ret
    exact ⟨by rw [fin.out]; rfl, hb1⟩
  have tk4 : (k == 4) = false := by simp; omega
  have tj4 : (j == 4) = false := by simp; omega
  have tl4 : (l == 4) = false := by simp; omega
  by_cases l3 : l = 3
  · have tl3 : (l == 3) = true := by simpa using l3
    have fin : Hid (v = c) := by unfold Hid; rw [FV.out]; unfold fmaK; rw [if_neg (by omega), if_neg (by omega), if_pos l3]
    clear VI VZ FV FU bk bj bl AD
    go_enter Tryd.func18, Tryd.ntmps18
    go_wp2_with (first | (go_at_call_of 34 (Value.int IntKind.u64 a); refine (KA.out _).mono ?_; rintro e w' ⟨rfl, rfl⟩) | (go_at_call_of 34 (Value.int IntKind.u64 b); refine (KB.out _).mono ?_; rintro e w' ⟨rfl, rfl⟩) | (go_at_call_of 34 (Value.int IntKind.u64 c); refine (KC.out _).mono ?_; rintro e w' ⟨rfl, rfl⟩))
    refine ML.out.mono ?_
    rintro en w1 ⟨rfl, hb1⟩
    go_wp2
    go_ret
    exact ⟨by rw [fin.out]; rfl, hb1⟩
  have tl3 : (l == 3) = false := by simpa using l3
  by_cases z : k = 0 ∨ j = 0
  · by_cases l0 : l = 0
    · have tl0 : (l == 0) = true := by simpa using l0
      have fin := Lib.hid (VZ.out (by omega) (by omega) z l0).symm
      clear VI VZ FV FU bk bj bl
      by_cases k0 : k = 0
      · have tk0 : (k == 0) = true := by simpa using k0
        go_enter Tryd.func18, Tryd.ntmps18
        go_wp2_with (first | (go_at_call_of 34 (Value.int IntKind.u64 a); refine (KA.out _).mono ?_; rintro e w' ⟨rfl, rfl⟩) | (go_at_call_of 34 (Value.int IntKind.u64 b); refine (KB.out _).mono ?_; rintro e w' ⟨rfl, rfl⟩) | (go_at_call_of 34 (Value.int IntKind.u64 c); refine (KC.out _).mono ?_; rintro e w' ⟨rfl, rfl⟩))
        refine ML.out.mono ?_
        rintro en w1 ⟨rfl, hb1⟩
        have PL := Lib.hid (AD.out w1 (HT.out.below hb1))
        go_wp2_with fail
        refine PL.out.mono ?_
        rintro en w2 ⟨rfl, hb2⟩
        have hB2 := hb1.trans (hb2.mono hb1.size)
        go_wp2
        go_ret
        exact ⟨by rw [fin.out]; rfl, hB2⟩
      · have tk0 : (k == 0) = false := by simpa using k0
        obtain rfl : j = 0 := by omega
        clear z
        go_enter Tryd.func18, Tryd.ntmps18
        go_wp2_with (first | (go_at_call_of 34 (Value.int IntKind.u64 a); refine (KA.out _).mono ?_; rintro e w' ⟨rfl, rfl⟩) | (go_at_call_of 34 (Value.int IntKind.u64 b); refine (KB.out _).mono ?_; rintro e w' ⟨rfl, rfl⟩) | (go_at_call_of 34 (Value.int IntKind.u64 c); refine (KC.out _).mono ?_; rintro e w' ⟨rfl, rfl⟩))
        refine ML.out.mono ?_
        rintro en w1 ⟨rfl, hb1⟩
        have PL := Lib.hid (AD.out w1 (HT.out.below hb1))
        go_wp2_with fail
        refine PL.out.mono ?_
        rintro en w2 ⟨rfl, hb2⟩
        have hB2 := hb1.trans (hb2.mono hb1.size)
        go_wp2
        go_ret
        exact ⟨by rw [fin.out]; rfl, hB2⟩
    · have tl0 : (l == 0) = false := by simpa using l0
      have fin : Hid (v = c) := by unfold Hid; rw [FV.out]; unfold fmaK; rw [if_neg (by omega), if_neg (by omega), if_neg l3, if_pos z, if_neg l0]
      clear VI VZ FV FU bk bj bl AD
      by_cases k0 : k = 0
      · have tk0 : (k == 0) = true := by simpa using k0
        go_enter Tryd.func18, Tryd.ntmps18
        go_wp2_with (first | (go_at_call_of 34 (Value.int IntKind.u64 a); refine (KA.out _).mono ?_; rintro e w' ⟨rfl, rfl⟩) | (go_at_call_of 34 (Value.int IntKind.u64 b); refine (KB.out _).mono ?_; rintro e w' ⟨rfl, rfl⟩) | (go_at_call_of 34 (Value.int IntKind.u64 c); refine (KC.out _).mono ?_; rintro e w' ⟨rfl, rfl⟩))
        refine ML.out.mono ?_
        rintro en w1 ⟨rfl, hb1⟩
        go_wp2
        go_ret
        exact ⟨by rw [fin.out]; rfl, hb1⟩
      · have tk0 : (k == 0) = false := by simpa using k0
        obtain rfl : j = 0 := by omega
        clear z
        go_enter Tryd.func18, Tryd.ntmps18
        go_wp2_with (first | (go_at_call_of 34 (Value.int IntKind.u64 a); refine (KA.out _).mono ?_; rintro e w' ⟨rfl, rfl⟩) | (go_at_call_of 34 (Value.int IntKind.u64 b); refine (KB.out _).mono ?_; rintro e w' ⟨rfl, rfl⟩) | (go_at_call_of 34 (Value.int IntKind.u64 c); refine (KC.out _).mono ?_; rintro e w' ⟨rfl, rfl⟩))
        refine ML.out.mono ?_
        rintro en w1 ⟨rfl, hb1⟩
        go_wp2
        go_ret
        exact ⟨by rw [fin.out]; rfl, hb1⟩
  · have tk0 : (k == 0) = false := by simp; omega
    have tj0 : (j == 0) = false := by simp; omega
    have fin : Hid (v = q) := by unfold Hid; rw [FV.out]; unfold fmaK; rw [if_neg (by omega), if_neg (by omega), if_neg l3, if_neg z]
    have FU := Lib.hid (FU.out ⟨by omega, by omega, by omega, by omega⟩)
    have tkn : (k != 0) = true := by simp; omega
    have tjn : (j != 0) = true := by simp; omega
    clear VI VZ FV bk bj bl AD
    go_enter Tryd.func18, Tryd.ntmps18
    go_wp2_with (first | (go_at_call_of 34 (Value.int IntKind.u64 a); refine (KA.out _).mono ?_; rintro e w' ⟨rfl, rfl⟩) | (go_at_call_of 34 (Value.int IntKind.u64 b); refine (KB.out _).mono ?_; rintro e w' ⟨rfl, rfl⟩) | (go_at_call_of 34 (Value.int IntKind.u64 c); refine (KC.out _).mono ?_; rintro e w' ⟨rfl, rfl⟩))
    refine ML.out.mono ?_
    rintro en w1 ⟨rfl, hb1⟩
    go_wp2_with fail
    refine (FU.out w1).mono ?_
    rintro en w2 ⟨rfl, hb2⟩
    have hB2 := hb1.trans (hb2.mono hb1.size)
    go_wp2
    go_ret
    exact ⟨by rw [fin.out]; rfl, hB2⟩
end Go.Proofs.YtnefacnceemklaaDoor
