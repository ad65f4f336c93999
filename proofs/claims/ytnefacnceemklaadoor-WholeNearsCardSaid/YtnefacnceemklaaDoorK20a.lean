/-
  Remainders are exact.
-/
import Derived.Test.YtnefacnceemklaaDoorK19a
import Derived.Test.YtnefacnceemklaaDoorX8
namespace Go.Proofs.YtnefacnceemklaaDoor
open Go.RowKit Go.Shelf

theorem rnd_exact {v e : Int} (h0 : 0 ≤ v) (h1 : v < 9007199254740992) (he : -1074 ≤ e) (hy : rndI false v e < 9218868437227405312) : XI (rndI false v e) = v * pw (e + 1074) := by
  by_cases hz : v = 0
  · rw [hz, rnd_zero, Int.zero_mul]; rfl
  have hb := blen_bits h0
  have h2 := hb.ge hz
  have h3 := hb.lt
  have hn : blen v ≤ 53 := by
    have := pw_lt_of (a := (blen v : Int)) (b := 54) (by omega) (by decide) (by rw [show pw 54 = 18014398509481984 from rfl]; omega)
    omega
  unfold rndI at *
  generalize blen v = n at *
  have d1 : ¬(v = 0 ∨ e < -2148 - (n : Int)) := by omega
  unfold joinV at *
  rw [if_neg d1] at hy ⊢
  by_cases d2 : 1024 < e ∨ 1024 < e + (n : Int)
  · rw [if_pos d2] at hy; exact absurd hy (by decide)
  rw [if_neg d2] at hy ⊢
  obtain ⟨L, hL⟩ : ∃ z, placeI e n = z := ⟨_, rfl⟩
  rw [hL] at hy ⊢
  have hLe : L ≤ e := by rw [← hL]; unfold placeI; omega
  have hL0 : -1074 ≤ L := by rw [← hL]; unfold placeI; omega
  have hpk : packV v (L - e) false = v * pw (e - L) := by
    unfold packV; rw [if_pos (by omega)]; congr 2; omega
  rw [hpk] at hy ⊢
  have M1 : v * pw (e - L) < 9007199254740992 := by
    have a := Int.mul_lt_mul_of_pos_right h3 (pw_pos (e - L))
    rw [← pw_add _ _ (by omega) (by omega)] at a
    have b := pow_lt (show 0 ≤ (n : Int) + (e - L) by omega) (show (n : Int) + (e - L) ≤ 53 by rw [← hL]; unfold placeI; omega)
    rw [show pw 53 = 9007199254740992 from rfl] at b
    omega
  have M0 : 0 ≤ v * pw (e - L) := Int.mul_nonneg h0 (Int.le_of_lt (pw_pos _))
  have M2 : L = -1074 ∨ 4503599627370496 ≤ v * pw (e - L) := by
    by_cases c : L = -1074
    · exact .inl c
    · right
      have eL : L = e + n - 53 := by rw [← hL] at c ⊢; unfold placeI at *; omega
      have a := Int.mul_le_mul_of_nonneg_right h2 (Int.le_of_lt (pw_pos (e - L)))
      rw [← pw_add _ _ (by omega) (by omega), show (n : Int) + (e - L) = 53 by omega, show pw 53 = 9007199254740992 from rfl, Int.mul_assoc] at a
      omega
  have eX : v * pw (e + 1074) = v * pw (e - L) * pw (L + 1074) := by
    rw [Int.mul_assoc, ← pw_add _ _ (by omega) (by omega)]; congr 2; omega
  rw [eX]
  generalize v * pw (e - L) = m at *
  clear eX hpk h2 h3 hb hL d1 d2 hn hz h0 h1
  have es : signI false = 0 := rfl
  rw [es] at hy ⊢
  obtain ⟨y, hyy⟩ : ∃ z, 0 + (m + (L + 1074) * 4503599627370496) = z := ⟨_, rfl⟩
  rw [hyy] at hy ⊢
  have hw : Word y := ⟨by omega, by omega⟩
  unfold XI
  by_cases c : m < 4503599627370496
  · have eL : L = -1074 := by omega
    subst eL
    have e1 : expI y = 0 := by unfold expI; omega
    have e2 : fracI y = m := by unfold fracI; omega
    have e3 : mantI y = m := by unfold mantI; rw [e1, e2]; rfl
    have e4 : powI y = -1074 := by unfold powI; rw [e1]; rfl
    rw [e3, e4]
  · have e1 : expI y = L + 1075 := by unfold expI; omega
    have e2 : fracI y = m - 4503599627370496 := by unfold fracI; omega
    have e3 : mantI y = m := by unfold mantI; rw [e1, e2, if_neg (by omega), if_neg (by omega)]; omega
    have e4 : powI y = L := by unfold powI; rw [e1, if_neg (by omega), if_neg (by omega)]; omega
    rw [e3, e4]


theorem XI_turn (x : Int) : XI (turnI x) = XI x := by
  have e1 : expI (turnI x) = expI x := by unfold expI turnI; omega
  have e2 : fracI (turnI x) = fracI x := by unfold fracI turnI; omega
  unfold XI mantI powI
  rw [e1, e2]
theorem kind_turn (x : Int) : kindI (turnI x) = kindI x := by
  have e : absI (turnI x) = absI x := by unfold absI turnI; omega
  unfold kindI; rw [e]
theorem turn_word (x : Int) : Word (turnI x) := by unfold turnI Word; omega
theorem XI_same {x y : Int} (h : absI x = absI y) : XI x = XI y := by
  have e1 : expI x = expI y := by unfold expI absI at *; omega
  have e2 : fracI x = fracI y := by unfold fracI absI at *; omega
  unfold XI mantI powI
  rw [e1, e2]
/-- Finite remainders, the number 0 among them. -/
theorem mod_fin {a b : Int} (h1 : Word a) (ka : kindI a < 3) (kb : kindI b = 1 ∨ kindI b = 2) : modV a b = rndI (negB a) (XI a % XI b) (-1074) := by
  have bk := kind_bd a
  unfold modV
  rw [if_neg (by omega)]
  by_cases c : kindI a = 0
  · have z : XI a = 0 := (XI_zero a h1 (fin_of_kind h1 ka)).2 (kind_zero.1 c)
    rw [if_pos (.inl c), z, Int.zero_emod, rnd_zero]
    exact sign_zero h1 c
  · rw [if_neg (by omega)]
theorem mod_shape {a b : Int} (h1 : Word a) (h2 : Word b) (kb : kindI b = 1 ∨ kindI b = 2) : ∃ q e : Int, 0 ≤ q ∧ q < 9007199254740992 ∧ -1074 ≤ e ∧ XI a % XI b = q * pw (e + 1074) := by
  obtain ⟨a0, a1, p0, p1⟩ := mant_bd a h1
  obtain ⟨b0, b1, q0, q1⟩ := mant_bd b h2
  have mz : mantI b ≠ 0 := fun e => nz_of_kind h2 (by omega) (by omega) ((mant_zero b h2 (fin_of_kind h2 (by omega))).1 e)
  by_cases c : powI a < powI b
  · have q := pw_pos (powI b - powI a)
    have p := pw_pos (powI a + 1074)
    have X : 0 < mantI b * pw (powI b - powI a) := Int.mul_pos (by omega) q
    refine ⟨mantI a % (mantI b * pw (powI b - powI a)), powI a, Int.emod_nonneg _ (by omega), ?_, p0, ?_⟩
    · have e := Int.emod_def (mantI a) (mantI b * pw (powI b - powI a))
      have := Int.mul_nonneg (Int.le_of_lt X) (Int.ediv_nonneg a0 (Int.le_of_lt X))
      omega
    · unfold XI
      have k : pw (powI b + 1074) = pw (powI b - powI a) * pw (powI a + 1074) := by rw [← pw_add _ _ (by omega) (by omega)]; congr 1; omega
      rw [k, ← Int.mul_assoc, Int.mul_comm _ (pw (powI a + 1074)), Int.mul_comm (mantI b * _) (pw (powI a + 1074)), Int.mul_emod_mul_of_pos _ _ p, Int.mul_comm]
  · have p := pw_pos (powI b + 1074)
    refine ⟨mantI a * pw (powI a - powI b) % mantI b, powI b, Int.emod_nonneg _ mz, ?_, q0, ?_⟩
    · have := Int.emod_lt_of_pos (mantI a * pw (powI a - powI b)) (show 0 < mantI b by omega); omega
    · unfold XI
      have k : pw (powI a + 1074) = pw (powI a - powI b) * pw (powI b + 1074) := by rw [← pw_add _ _ (by omega) (by omega)]; congr 1; omega
      rw [k, ← Int.mul_assoc, Int.mul_comm _ (pw (powI b + 1074)), Int.mul_comm (mantI b) (pw (powI b + 1074)), Int.mul_emod_mul_of_pos _ _ p, Int.mul_comm]
theorem abs_lt_inf {x : Int} (h : kindI x < 3) : absI x < 9218868437227405312 := by
  unfold kindI at h
  repeat' split at h
  all_goals omega
theorem kind_of_abs {x : Int} (h : absI x < 9218868437227405312) : kindI x < 3 := by
  unfold kindI
  repeat' split
  all_goals omega
theorem mod_exact {a b : Int} (h1 : Word a) (h2 : Word b) (ka : kindI a < 3) (kb : kindI b = 1 ∨ kindI b = 2) :
    Word (modV a b) ∧ absI (modV a b) < absI b ∧ absI (modV a b) ≤ absI a ∧ negB (modV a b) = negB a ∧ modV (modV a b) b = modV a b ∧ modV a (turnI b) = modV a b ∧ kindI (modV a b) < 3 := by
  have fa := fin_of_kind h1 ka
  have fb := fin_of_kind h2 (show kindI b < 3 by omega)
  have xa := XI_nonneg a h1
  have xb := XI_nonneg b h2
  have zb : XI b ≠ 0 := fun e => nz_of_kind h2 (by omega) (by omega) ((XI_zero b h2 fb).1 e)
  obtain ⟨q, e, q0, q1, e0, eq⟩ := mod_shape h1 h2 kb
  have R0 : 0 ≤ XI a % XI b := Int.emod_nonneg _ zb
  have R1 : XI a % XI b < XI b := Int.emod_lt_of_pos _ (by omega)
  have R2 : XI a % XI b ≤ XI a := by
    have e := Int.emod_def (XI a) (XI b)
    have := Int.mul_nonneg xb (Int.ediv_nonneg xa xb)
    omega
  have mf := mod_fin h1 ka kb
  have mt : modV a (turnI b) = modV a b := by
    rw [mf, mod_fin h1 ka (by rw [kind_turn]; exact kb), XI_turn]
  have mono := rnd_mono (-1074) R0 R2
  rw [rnd_self a h1 fa] at mono
  have ai := abs_lt_inf ka
  have sc : rndI false (XI a % XI b) (-1074) = rndI false q e := by
    rw [eq, rnd_scale false (-1074) q0 (by omega)]; congr 1; omega
  have ex := rnd_exact q0 q1 e0 (by rw [← sc]; omega)
  rw [← sc, ← eq] at ex
  have bd := rnd_bd (-1074) R0
  have fin : modV a b = signI (negB a) + rndI false (XI a % XI b) (-1074) := by rw [mf, rnd_neg]
  have mm : ∀ s, modV a b = s → negB s = negB a → XI s = XI a % XI b → kindI s < 3 → Word s → modV s b = s := by
    intro s hs n x k hw
    rw [mod_fin hw k kb, n, x, Int.emod_emod_of_dvd _ (Int.dvd_refl _), ← mf, hs]
  have mm := mm _ rfl
  rw [mt]
  generalize modV a b = r at *
  generalize rndI false (XI a % XI b) (-1074) = x at *
  have s01 : signI (negB a) = 0 ∨ signI (negB a) = 9223372036854775808 := by cases negB a <;> simp [signI]
  have rw1 : Word r := by unfold Word; omega
  have ar : absI r = x := by unfold absI; omega
  have xx : absI x = x := by unfold absI; omega
  have xr : XI r = XI a % XI b := by rw [XI_same (ar.trans xx.symm)]; exact ex
  have kr : kindI r < 3 := kind_of_abs (by omega)
  have nr : negB r = negB a := by
    cases hn : negB a
    · rw [hn] at fin; simp [signI] at fin; unfold negB; simp; omega
    · rw [hn] at fin; simp [signI] at fin; unfold negB; simp; omega
  refine ⟨rw1, ?_, by omega, nr, mm nr xr kr rw1, rfl, kr⟩
  rcases Int.lt_or_le (absI r) (absI b) with c | c
  · exact c
  · have := (XI_le_iff h2 rw1 fb (fin_of_kind rw1 kr)).2 c
    omega
end Go.Proofs.YtnefacnceemklaaDoor
