/-
  Quotients by one and by itself, fused products with one and with nothing added.
-/
import Derived.Test.YtnefacnceemklaaDoorK7
import Derived.Test.YtnefacnceemklaaDoorK4
namespace Go.Proofs.YtnefacnceemklaaDoor
open Go.RowKit Go.Shelf

theorem neg_zero_not : negB 4607182418800017408 = false := by decide
theorem sign_kind {a : Int} (h : Word a) (k3 : kindI a = 3) : a = signI (negB a) + 9218868437227405312 := by
  have := sign_abs a h
  have e : absI a = 9218868437227405312 := by
    unfold kindI at k3
    repeat' split at k3
    all_goals omega
  omega
theorem sign_zero {a : Int} (h : Word a) (k0 : kindI a = 0) : a = signI (negB a) := by
  have := sign_abs a h
  have := kind_zero.1 k0
  omega
theorem rnd_parts {a : Int} (h : Word a) (f : expI a ≠ 2047) : rndI (negB a) (mantI a) (powI a) = a := by
  obtain ⟨m0, m1, p0, p1⟩ := mant_bd a h
  have e := rnd_self a h f
  unfold XI at e
  rw [rnd_scale false (-1074) m0 (by omega), show -1074 + (powI a + 1074) = powI a by omega] at e
  rw [rnd_neg, e]
  exact sign_abs a h
theorem div_one {a : Int} (h : Word a) : divV a 4607182418800017408 = rightI a := by
  have k1 : kindI 4607182418800017408 = 2 := by decide
  have n1 : negB 4607182418800017408 = false := by decide
  have m1 : mantI 4607182418800017408 = 4503599627370496 := by decide
  have p1 : powI 4607182418800017408 = -52 := by decide
  have bk := kind_bd a
  unfold divV divK rightI
  rw [k1, n1, m1, p1, Bool.bne_false]
  by_cases c4 : kindI a = 4
  · rw [if_pos (.inl c4), if_pos c4]
  rw [if_neg (by omega), if_neg c4]
  by_cases c3 : kindI a = 3
  · rw [if_pos (.inl c3)]; exact (sign_kind h c3).symm
  rw [if_neg (by omega)]
  by_cases c0 : kindI a = 0
  · rw [if_pos (.inl c0)]; exact (sign_zero h c0).symm
  rw [if_neg (by omega)]
  obtain ⟨b0, b1, q0, q1⟩ := mant_bd a h
  have e : mantI a * pw 128 = mantI a * pw 76 * 4503599627370496 := by
    rw [Int.mul_assoc]; rfl
  unfold quoV
  rw [e, Int.mul_ediv_cancel _ (by decide), Int.mul_emod_left, show ((0 : Int) != 0) = false from rfl]
  have r : joinV (negB a) (mantI a * pw 76) (powI a - -52 - 128) (blen (mantI a * pw 76)) false = rndI (negB a) (mantI a * pw 76) (powI a - 76) := by
    rw [show powI a - -52 - 128 = powI a - 76 by omega]; rfl
  rw [r, rnd_scale _ _ b0 (by decide), show powI a - 76 + 76 = powI a by omega]
  exact rnd_parts h (fin_of_kind h (by omega))
theorem div_self {a : Int} (h : Word a) : divV a a = if kindI a = 1 ∨ kindI a = 2 then 4607182418800017408 else 9221120237041090560 := by
  have bk := kind_bd a
  unfold divV divK
  by_cases c : kindI a = 1 ∨ kindI a = 2
  · have f := fin_of_kind h (by omega)
    have mz : mantI a ≠ 0 := fun e => nz_of_kind h (by omega) (by omega) ((mant_zero a h f).1 e)
    rw [if_neg (by omega), if_neg (by omega), if_neg (by omega), if_pos c]
    unfold quoV
    rw [Int.mul_ediv_cancel_left _ mz, Int.mul_emod_right, show powI a - powI a - 128 = -128 by omega, show (negB a != negB a) = false by cases negB a <;> rfl]
    decide +kernel
  · rw [if_pos (by omega), if_neg c]
theorem R2_scale (s : Int) : R2 (s * pw 1074) = R s := by
  have p := pw_pos 1074
  unfold R2 R
  by_cases c : s = 0
  · subst c; rw [Int.zero_mul]; rfl
  have c2 : s * pw 1074 ≠ 0 := fun e => by
    rcases Int.mul_eq_zero.1 e with e | e
    · exact c e
    · omega
  rw [if_neg c, if_neg c2]
  by_cases n : s < 0
  · have n2 : s * pw 1074 < 0 := Int.mul_neg_of_neg_of_pos n p
    rw [if_pos n, if_pos n2, decide_eq_true n, decide_eq_true n2, ← Int.neg_mul, rnd_scale _ _ (by omega) (by decide)]; rfl
  · have n2 : ¬ s * pw 1074 < 0 := by have := Int.mul_nonneg (show 0 ≤ s by omega) (Int.le_of_lt p); omega
    rw [if_neg n, if_neg n2, decide_eq_false n, decide_eq_false n2, rnd_scale _ _ (by omega) (by decide)]; rfl
theorem fma_one {a b : Int} (h1 : Word a) (h2 : Word b) : fmaV a 4607182418800017408 b = addV a b := by
  have k1 : kindI 4607182418800017408 = 2 := by decide
  have n1 : negB 4607182418800017408 = false := by decide
  have x1 : XI 4607182418800017408 = pw 1074 := by
    unfold XI
    rw [show mantI 4607182418800017408 = pw 52 by decide, show powI 4607182418800017408 = -52 by decide, ← pw_add 52 (-52 + 1074) (by decide) (by decide)]; rfl
  have bk := kind_bd a
  have bl := kind_bd b
  unfold fmaV
  rw [k1, n1, x1, Bool.bne_false, sgn_mul, sgn_mul, ← Int.add_mul, R2_scale, show sgn (negB a) (XI a) + sgn (negB b) (XI b) = sX a + sX b from rfl]
  by_cases f : kindI a < 3 ∧ kindI b < 3
  · unfold fmaK
    rw [if_neg (by omega), if_neg (by omega), if_neg (by omega)]
    by_cases z : kindI a = 0 ∧ kindI b = 0
    · rw [if_pos (.inl z.1), if_pos z.2, add_zeros h1 h2 z.1 z.2]
    · rw [add_finite h1 h2 f.1 f.2 z]
      by_cases z0 : kindI a = 0
      · rw [if_pos (.inl z0), if_neg (by omega), sX_zero h1 z0, Int.zero_add, R_self h2 f.2 (by omega)]
      · rw [if_neg (by omega)]
  · unfold fmaK addV addK
    by_cases c4 : kindI a = 4 ∨ kindI b = 4
    · rw [if_pos (by omega), if_pos c4]
    rw [if_neg c4]
    by_cases c3 : kindI a = 3
    · rw [if_pos c3]
      have e1 := sign_kind h1 c3
      by_cases d3 : kindI b = 3
      · have e2 := sign_kind h2 d3
        rw [if_pos d3]
        by_cases e : negB b = negB a
        · have ab : a = b := by rw [e1, e2, e]
          rw [if_neg, if_pos (.inl c3), if_pos d3, if_pos ab]
          · exact e1.symm
          · rintro (g | g | g | g | ⟨_, _, g⟩)
            · omega
            · omega
            · omega
            · omega
            · exact g e
        · have ne : a ≠ b := fun g => e (by rw [g])
          rw [if_pos (.inr (.inr (.inr (.inr ⟨.inl c3, d3, e⟩)))), if_pos d3, if_neg ne]
      · rw [if_neg (by omega), if_pos (.inl c3), if_neg d3]
        exact e1.symm
    · rw [if_neg (by omega), if_neg (by omega), if_pos (by omega), if_neg c3, if_pos (by omega)]
theorem fma_none {a b : Int} (h1 : Word a) (h2 : Word b) : fmaV a b 9223372036854775808 = mulV a b := by
  have k1 : kindI 9223372036854775808 = 0 := by decide
  have n1 : negB 9223372036854775808 = true := by decide
  have x1 : XI 9223372036854775808 = 0 := by
    unfold XI; rw [show mantI 9223372036854775808 = 0 by decide, Int.zero_mul]
  have bk := kind_bd a
  have bj := kind_bd b
  unfold fmaV mulV
  rw [k1, n1, x1, Int.zero_mul, show sgn true 0 = 0 from rfl, Int.add_zero]
  unfold fmaK mulK
  by_cases c4 : kindI a = 4 ∨ kindI b = 4 ∨ (kindI a = 3 ∧ kindI b = 0) ∨ (kindI a = 0 ∧ kindI b = 3)
  · rw [if_pos (by omega), if_pos c4]
  rw [if_neg (by omega), if_neg c4]
  by_cases c3 : kindI a = 3 ∨ kindI b = 3
  · rw [if_pos c3, if_pos c3]
  rw [if_neg c3, if_neg c3, if_neg (by omega)]
  by_cases c0 : kindI a = 0 ∨ kindI b = 0
  · rw [if_pos c0, if_pos c0, if_pos rfl, Bool.and_true]
  rw [if_neg c0, if_neg c0]
  obtain ⟨a0, a1, p0, p1⟩ := mant_bd a h1
  obtain ⟨b0, b1, q0, q1⟩ := mant_bd b h2
  have xa := XI_nonneg a h1
  have xb := XI_nonneg b h2
  have za : XI a ≠ 0 := fun e => c0 (.inl (kind_zero.2 ((XI_zero a h1 (fin_of_kind h1 (by omega))).1 e)))
  have zb : XI b ≠ 0 := fun e => c0 (.inr (kind_zero.2 ((XI_zero b h2 (fin_of_kind h2 (by omega))).1 e)))
  have P : 1 ≤ XI a * XI b := Int.mul_pos (by omega) (by omega)
  rw [R2_of _ P]
  have EP : mantI a * mantI b * pw (powI a + powI b + 2148) = XI a * XI b := by
    unfold XI
    rw [show powI a + powI b + 2148 = (powI a + 1074) + (powI b + 1074) by omega, pw_add _ _ (by omega) (by omega)]
    generalize pw (powI a + 1074) = A
    generalize pw (powI b + 1074) = B
    rw [Int.mul_assoc, Int.mul_left_comm (mantI b) A B, ← Int.mul_assoc]
  rw [← EP, rnd_scale _ _ (Int.mul_nonneg a0 b0) (by omega)]
  congr 1; omega
end Go.Proofs.YtnefacnceemklaaDoor
