/-
  What sums and products with one, two, nothing and itself are; sums of numbers within a factor of two are exact.
-/
import Derived.Test.YtgaaaokhggeglaaDoorA9
namespace Go.Proofs.YtgaaaokhggeglaaDoor
open Go.RowKit Go.Shelf

theorem sign_abs (x : Int) (h : Word x) : signI (negB x) + absI x = x := by
  unfold signI negB absI Word at *
  by_cases c : 9223372036854775808 ≤ x
  · rw [decide_eq_true c]; simp; omega
  · rw [decide_eq_false c]; simp; omega
theorem kind_inf {x : Int} (h : kindI x = 3) : absI x = 9218868437227405312 := by
  unfold kindI at h
  repeat' split at h
  all_goals omega
theorem kind_zero {x : Int} : kindI x = 0 ↔ absI x = 0 := by
  have : 0 ≤ absI x := by unfold absI; omega
  unfold kindI
  repeat' split
  all_goals omega
theorem kind_lt {x : Int} : kindI x < 3 ↔ absI x < 9218868437227405312 := by
  unfold kindI
  repeat' split
  all_goals omega
theorem right_eq {x : Int} (h : kindI x ≠ 4) : rightI x = x := by unfold rightI; rw [if_neg h]

theorem mul_one {x : Int} (h : Word x) : mulV x 4607182418800017408 = rightI x := by
  have k1 : kindI 4607182418800017408 = 2 := by decide
  have n1 : negB 4607182418800017408 = false := by decide
  have m1 : mantI 4607182418800017408 = pw 52 := by decide
  have p1 : powI 4607182418800017408 = -52 := by decide
  have e := sign_abs x h
  unfold mulV mulK
  rw [k1, n1, m1, p1, show (negB x != false) = negB x by cases negB x <;> rfl]
  have kb := kind_bd x
  by_cases c4 : kindI x = 4
  · rw [if_pos (.inl c4)]; unfold rightI; rw [if_pos c4]
  rw [if_neg (by omega), right_eq c4]
  by_cases c3 : kindI x = 3
  · rw [if_pos (.inl c3)]; rw [kind_inf c3] at e; exact e
  rw [if_neg (by omega)]
  by_cases c0 : kindI x = 0
  · rw [if_pos (.inl c0)]; rw [kind_zero.1 c0] at e; omega
  rw [if_neg (by omega), rnd_neg, rnd_scale false _ (mant_bd x h).1 (by decide), show powI x + -52 + 52 = powI x by omega, mant_self x h (fin_of_kind h (by omega))]
  exact e
theorem mul_minus {x : Int} (h : Word x) : mulV x 13830554455654793216 = negI x := by
  rw [mulV_comm, show (13830554455654793216 : Int) = negI 4607182418800017408 by decide, mul_turn (by decide) h, mulV_comm, mul_one h]
  by_cases c : kindI x = 4
  · unfold negI rightI; rw [if_pos c]; rw [if_pos c]; rfl
  · rw [right_eq c]
theorem sX_ne {x : Int} (h : Word x) (hk : kindI x < 3) (h0 : kindI x ≠ 0) : 1 ≤ XI x := by
  have := XI_zero x h (fin_of_kind h hk)
  have := XI_nonneg x h
  have := nz_of_kind h hk h0
  omega
theorem R_pos {s : Int} (h : 0 ≤ s) : R s = rndI false s (-1074) := by
  unfold R
  by_cases c : s = 0
  · rw [if_pos c, c, rnd_zero]; rfl
  · rw [if_neg c, if_neg (by omega), decide_eq_false (by omega)]
theorem R_min {s : Int} (h : s < 0) : R s = rndI true (-s) (-1074) := by
  unfold R
  rw [if_neg (by omega), if_pos h, decide_eq_true h]
theorem R_of (b : Bool) {v : Int} (h : 1 ≤ v) : R (if b = true then -v else v) = rndI b v (-1074) := by
  cases b
  · exact R_pos (by simp; omega)
  · have := R_min (s := -v) (by omega)
    rw [Int.neg_neg] at this; exact this
theorem add_twice {x : Int} (h : Word x) : addV x x = mulV x 4611686018427387904 := by
  have k1 : kindI 4611686018427387904 = 2 := by decide
  have n1 : negB 4611686018427387904 = false := by decide
  have m1 : mantI 4611686018427387904 = pw 52 := by decide
  have p1 : powI 4611686018427387904 = -51 := by decide
  have e := sign_abs x h
  unfold mulV mulK addV addK
  rw [k1, n1, m1, p1, show (negB x != false) = negB x by cases negB x <;> rfl]
  have kb := kind_bd x
  by_cases c4 : kindI x = 4
  · rw [if_pos (.inl c4), if_pos (.inl c4)]
  have d4 : ¬(kindI x = 4 ∨ kindI x = 4) := by omega
  have d5 : ¬(kindI x = 4 ∨ (2 : Int) = 4 ∨ (kindI x = 3 ∧ (2 : Int) = 0) ∨ (kindI x = 0 ∧ (2 : Int) = 3)) := by omega
  rw [if_neg d4, if_neg d5]
  by_cases c3 : kindI x = 3
  · rw [if_pos c3, if_pos c3, if_pos rfl, if_pos (.inl c3)]; rw [kind_inf c3] at e; exact e.symm
  have d6 : ¬(kindI x = 3 ∨ (2 : Int) = 3) := by omega
  rw [if_neg c3, if_neg c3, if_neg d6]
  by_cases c0 : kindI x = 0
  · rw [if_pos c0, if_pos c0, if_pos (.inl c0), and_zeros h h c0 c0]
    rcases zero_val h c0 with rfl | rfl <;> decide
  have d7 : ¬(kindI x = 0 ∨ (2 : Int) = 0) := by omega
  rw [if_neg c0, if_neg c0, if_neg d7]
  have hx := sX_ne h (by omega) c0
  have mb := mant_bd x h
  have e1 : sX x + sX x = if negB x = true then -(2 * XI x) else 2 * XI x := by unfold sX; split <;> omega
  have e2 : 2 * XI x = mantI x * pw (powI x + 1075) := by
    unfold XI
    rw [show powI x + 1075 = (powI x + 1074) + 1 by omega, pw_add (powI x + 1074) 1 (by omega) (by decide), show pw 1 = 2 from rfl, ← Int.mul_assoc (mantI x)]; omega
  rw [e1, R_of _ (by omega), e2, rnd_scale _ _ mb.1 (by omega), rnd_scale _ _ mb.1 (by decide)]
  congr 1; omega
theorem sub_self {x : Int} (h : Word x) : subV x x = if 3 ≤ kindI x then 9221120237041090560 else 0 := by
  have nk := neg_kind x h
  have zb := neg_word x h
  have kb := kind_bd x
  unfold subV addV addK
  rw [nk]
  by_cases c4 : kindI x = 4
  · rw [if_pos (.inl c4), if_pos (by omega)]
  have d4 : ¬(kindI x = 4 ∨ kindI x = 4) := by omega
  have en := negI_fin c4
  rw [if_neg d4]
  by_cases c3 : kindI x = 3
  · have : ¬ x = negI x := by rw [en]; unfold turnI Word at *; omega
    rw [if_pos c3, if_pos c3, if_neg this, if_pos (by omega)]
  have d3 : ¬ 3 ≤ kindI x := by omega
  rw [if_neg c3, if_neg c3, if_neg d3]
  by_cases c0 : kindI x = 0
  · rw [if_pos c0, if_pos c0, and_zeros h zb c0 (nk.trans c0), if_neg]
    rw [en]; unfold turnI Word at *; omega
  rw [if_neg c0, if_neg c0, en, turn_sX x h, Int.add_right_neg]; rfl
theorem add_zero {x : Int} (h : Word x) : x = 9223372036854775808 ∨ addV x 0 = rightI x := by
  have kb := kind_bd x
  have k0 : kindI 0 = 0 := by decide
  by_cases hx : x = 9223372036854775808
  · exact .inl hx
  right
  unfold addV addK
  rw [k0]
  by_cases c4 : kindI x = 4
  · rw [if_pos (.inl c4)]; unfold rightI; rw [if_pos c4]
  have d4 : ¬(kindI x = 4 ∨ (0 : Int) = 4) := by omega
  rw [if_neg d4, right_eq c4]
  by_cases c3 : kindI x = 3
  · rw [if_pos c3]; rfl
  rw [if_neg c3, if_neg (by decide)]
  by_cases c0 : kindI x = 0
  · rw [if_pos c0, if_pos rfl, and_zeros h (by decide) c0 k0, if_neg (by omega)]
    rcases zero_val h c0 with rfl | rfl
    · rfl
    · exact absurd rfl hx
  rw [if_neg c0, if_pos rfl]
theorem add_negzero {x : Int} (h : Word x) (hk : kindI x ≠ 4) : addV x 9223372036854775808 = x := by
  have kb := kind_bd x
  have k0 : kindI 9223372036854775808 = 0 := by decide
  unfold addV addK
  rw [k0]
  have d4 : ¬(kindI x = 4 ∨ (0 : Int) = 4) := by omega
  rw [if_neg d4]
  by_cases c3 : kindI x = 3
  · rw [if_pos c3]; rfl
  rw [if_neg c3, if_neg (by decide)]
  by_cases c0 : kindI x = 0
  · rw [if_pos c0, if_pos rfl, and_zeros h (by decide) c0 k0]
    rcases zero_val h c0 with rfl | rfl <;> decide
  rw [if_neg c0, if_pos rfl]

/-! ### What is exact -/
theorem rnd_exact {v e : Int} (h0 : 0 ≤ v) (h1 : v < 9007199254740992) (he : -1074 ≤ e) (hy : rndI false v e < 9218868437227405312) : XI (rndI false v e) = v * pw (e + 1074) := by
  by_cases hz : v = 0
  · rw [hz, rnd_zero, Int.zero_mul]; rfl
  have hb := blen_bits h0
  have h2 := hb.ge hz
  have h3 := hb.lt
  have hn : blen v ≤ 53 := by
    have := pw_lt_of (a := (blen v : Int)) (b := 54) (by omega) (by decide) (by rw [show pw 54 = 18014398509481984 from rfl]; omega)
    omega
  unfold rndI at *
  generalize blen v = n at *
  have d1 : ¬(v = 0 ∨ e < -2148 - (n : Int)) := by omega
  unfold joinV at *
  rw [if_neg d1] at hy ⊢
  by_cases d2 : 1024 < e ∨ 1024 < e + (n : Int)
  · rw [if_pos d2] at hy; exact absurd hy (by decide)
  rw [if_neg d2] at hy ⊢
  obtain ⟨L, hL⟩ : ∃ z, placeI e n = z := ⟨_, rfl⟩
  rw [hL] at hy ⊢
  have hLe : L ≤ e := by rw [← hL]; unfold placeI; omega
  have hL0 : -1074 ≤ L := by rw [← hL]; unfold placeI; omega
  have hpk : packV v (L - e) false = v * pw (e - L) := by
    unfold packV; rw [if_pos (by omega)]; congr 2; omega
  rw [hpk] at hy ⊢
  have M1 : v * pw (e - L) < 9007199254740992 := by
    have a := Int.mul_lt_mul_of_pos_right h3 (pw_pos (e - L))
    rw [← pw_add _ _ (by omega) (by omega)] at a
    have b := pow_lt (show 0 ≤ (n : Int) + (e - L) by omega) (show (n : Int) + (e - L) ≤ 53 by rw [← hL]; unfold placeI; omega)
    rw [show pw 53 = 9007199254740992 from rfl] at b
    omega
  have M0 : 0 ≤ v * pw (e - L) := Int.mul_nonneg h0 (Int.le_of_lt (pw_pos _))
  have M2 : L = -1074 ∨ 4503599627370496 ≤ v * pw (e - L) := by
    by_cases c : L = -1074
    · exact .inl c
    · right
      have eL : L = e + n - 53 := by rw [← hL] at c ⊢; unfold placeI at *; omega
      have a := Int.mul_le_mul_of_nonneg_right h2 (Int.le_of_lt (pw_pos (e - L)))
      rw [← pw_add _ _ (by omega) (by omega), show (n : Int) + (e - L) = 53 by omega, show pw 53 = 9007199254740992 from rfl, Int.mul_assoc] at a
      omega
  have eX : v * pw (e + 1074) = v * pw (e - L) * pw (L + 1074) := by
    rw [Int.mul_assoc, ← pw_add _ _ (by omega) (by omega)]; congr 2; omega
  rw [eX]
  generalize v * pw (e - L) = m at *
  clear eX hpk h2 h3 hb hL d1 d2 hn hz h0 h1
  have es : signI false = 0 := rfl
  rw [es] at hy ⊢
  obtain ⟨y, hyy⟩ : ∃ z, 0 + (m + (L + 1074) * 4503599627370496) = z := ⟨_, rfl⟩
  rw [hyy] at hy ⊢
  have hw : Word y := ⟨by omega, by omega⟩
  unfold XI
  by_cases c : m < 4503599627370496
  · have eL : L = -1074 := by omega
    subst eL
    have e1 : expI y = 0 := by unfold expI; omega
    have e2 : fracI y = m := by unfold fracI; omega
    have e3 : mantI y = m := by unfold mantI; rw [e1, e2]; rfl
    have e4 : powI y = -1074 := by unfold powI; rw [e1]; rfl
    rw [e3, e4]
  · have e1 : expI y = L + 1075 := by unfold expI; omega
    have e2 : fracI y = m - 4503599627370496 := by unfold fracI; omega
    have e3 : mantI y = m := by unfold mantI; rw [e1, e2, if_neg (by omega), if_neg (by omega)]; omega
    have e4 : powI y = L := by unfold powI; rw [e1, if_neg (by omega), if_neg (by omega)]; omega
    rw [e3, e4]

theorem pos_facts {x : Int} (_h : Word x) (hx : x < 9223372036854775808) : absI x = x ∧ negB x = false ∧ sX x = XI x := by
  have e : negB x = false := by unfold negB; exact decide_eq_false (by omega)
  refine ⟨by unfold absI Word at *; omega, e, ?_⟩
  unfold sX; rw [e]; rfl
theorem add_fin {a b : Int} (ka : kindI a < 3) (kb : kindI b < 3) (ha : kindI a ≠ 0) (hb : kindI b ≠ 0) : addV a b = R (sX a + sX b) := by
  unfold addV addK
  rw [if_neg (by omega), if_neg (by omega), if_neg (by omega), if_neg ha, if_neg hb]

theorem exact_sum {a b : Int} (h1 : Word a) (h2 : Word b) (ha : a < 9223372036854775808) (hb : b < 9223372036854775808) (hle : a ≤ b) (hk : kindI b < 3) (hbb : b ≤ addV a a) :
    addV a (subV b a) = b ∧ subV b (subV b a) = a ∧ subV b a ≤ a := by
  obtain ⟨a1, a2, a3⟩ := pos_facts h1 ha
  obtain ⟨b1, b2, b3⟩ := pos_facts h2 hb
  have kbl := kind_lt.1 hk
  have kal : kindI a < 3 := kind_lt.2 (by omega)
  by_cases a0 : kindI a = 0
  · have az : a = 0 := by have := kind_zero.1 a0; omega
    subst az
    rw [show addV 0 0 = 0 by decide +kernel] at hbb
    obtain rfl : b = 0 := by omega
    decide +kernel
  have b0 : kindI b ≠ 0 := fun e => by have := kind_zero.1 e; have := h1.1; have : absI a = 0 := by omega
                                       exact a0 (kind_zero.2 this)
  have fa := fin_of_kind h1 kal
  have fb := fin_of_kind h2 hk
  have XA := sX_ne h1 kal a0
  have XB := sX_ne h2 hk b0
  have ma := mant_bd a h1
  have mb := mant_bd b h2
  have hxle := XI_le h1 h2 fa fb (by omega)
  have rA : rndI false (XI a) (-1074) = a := by rw [rnd_self a h1 fa, a1]
  have rB : rndI false (XI b) (-1074) = b := by rw [rnd_self b h2 fb, b1]
  -- the greater is at most twice the lesser
  have e2 : XI a + XI a = mantI a * pw (powI a + 1 + 1074) := by
    unfold XI
    rw [show powI a + 1 + 1074 = (powI a + 1074) + 1 by omega, pw_add (powI a + 1074) 1 (by omega) (by decide), show pw 1 = 2 from rfl, ← Int.mul_assoc]; omega
  have hS : rndI false (XI a + XI a) (-1074) = rndI false (mantI a) (powI a + 1) := by
    rw [e2, rnd_scale _ _ ma.1 (by omega)]; congr 1; omega
  have h2x : XI b ≤ XI a + XI a := by
    rcases Int.lt_or_le (XI a + XI a) (XI b) with c | c
    · have m := rnd_mono (-1074) (show 0 ≤ XI a + XI a by omega) (Int.le_of_lt c)
      rw [rB, hS] at m
      have ex := rnd_exact ma.1 ma.2.1 (show -1074 ≤ powI a + 1 by omega) (by omega)
      rw [← e2] at ex
      rw [add_fin kal kal a0 a0, a3, R_pos (by omega), hS] at hbb
      have y0 := rnd_bd (powI a + 1) ma.1
      have eq : rndI false (mantI a) (powI a + 1) = b := by omega
      rw [eq] at ex; omega
    · exact c
  -- the difference is a number
  have hpow := abs_mant h2 h1 fb fa (by omega)
  have eD : XI b - XI a = (mantI b * pw (powI b - powI a) - mantI a) * pw (powI a + 1074) := by
    unfold XI
    rw [Int.sub_mul, Int.mul_assoc, ← pw_add _ _ (by omega) (by omega)]; congr 3; omega
  have hpp := pw_pos (powI a + 1074)
  obtain ⟨k, hkk⟩ : ∃ z, mantI b * pw (powI b - powI a) - mantI a = z := ⟨_, rfl⟩
  rw [hkk] at eD
  have k0 : 0 ≤ k := by
    rcases Int.lt_or_le k 0 with c | c
    · have := Int.mul_neg_of_neg_of_pos c hpp; omega
    · exact c
  have k1 : k ≤ mantI a := by
    rcases Int.lt_or_le (mantI a) k with c | c
    · have := Int.mul_lt_mul_of_pos_right c hpp
      have : XI a = mantI a * pw (powI a + 1074) := rfl
      omega
    · exact c
  have hD : rndI false (XI b - XI a) (-1074) = rndI false k (powI a) := by
    rw [eD, rnd_scale _ _ k0 (by omega)]; congr 1; omega
  have mD := rnd_mono (-1074) (show 0 ≤ XI b - XI a by omega) (show XI b - XI a ≤ XI a by omega)
  rw [rA] at mD
  have ex := rnd_exact k0 (by omega) (show -1074 ≤ powI a by omega) (by rw [← hD]; omega)
  rw [← hD, ← eD] at ex
  have dbd := (rnd_bd (-1074) (show 0 ≤ XI b - XI a by omega)).1
  have na := negI_fin (x := a) (by omega)
  have hd : subV b a = rndI false (XI b - XI a) (-1074) := by
    unfold subV
    rw [add_fin hk (by rw [neg_kind a h1]; exact kal) b0 (by rw [neg_kind a h1]; exact a0), na, turn_sX a h1, a3, b3, show XI b + -XI a = XI b - XI a by omega, R_pos (by omega)]
  obtain ⟨d, hdd⟩ : ∃ z, subV b a = z := ⟨_, rfl⟩
  rw [hdd] at hd ⊢
  rw [← hd] at ex mD dbd
  have hw : Word d := ⟨dbd, by omega⟩
  obtain ⟨d1, d2, d3⟩ := pos_facts hw (by omega)
  have kd : kindI d < 3 := kind_lt.2 (by omega)
  refine ⟨?_, ?_, mD⟩
  · by_cases d0 : kindI d = 0
    · have dz : d = 0 := by have := kind_zero.1 d0; omega
      subst dz
      have : XI a = XI b := by have : XI 0 = 0 := by decide
                               omega
      have := XI_inj h1 h2 fa fb this
      rcases add_zero h1 with h | h
      · omega
      · rw [h, right_eq (by omega)]; omega
    · rw [add_fin kal kd a0 d0, a3, d3, ex, show XI a + (XI b - XI a) = XI b by omega, R_pos (by omega), rB]
  · unfold subV
    by_cases d0 : kindI d = 0
    · have dz : d = 0 := by have := kind_zero.1 d0; omega
      subst dz
      have : XI a = XI b := by have : XI 0 = 0 := by decide
                               omega
      have := XI_inj h1 h2 fa fb this
      rw [show negI 0 = 9223372036854775808 by decide, add_negzero h2 (by omega)]; omega
    · rw [add_fin hk (by rw [neg_kind d hw]; exact kd) b0 (by rw [neg_kind d hw]; exact d0), negI_fin (by omega), turn_sX d hw, b3, d3, ex, show XI b + -(XI b - XI a) = XI a by omega, R_pos (by omega), rA]
end Go.Proofs.YtgaaaokhggeglaaDoor
