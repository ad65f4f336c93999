/-
  What a product of two fractions leaves out.
-/
import Derived.Test.YtnefacnceemklaaDoorK20a
namespace Go.Proofs.YtnefacnceemklaaDoor
open Go.RowKit Go.Shelf

theorem round52 {P : Int} (_h : 0 ≤ P) : -2251799813685248 ≤ P - roundI P 52 false * 4503599627370496 ∧ P - roundI P 52 false * 4503599627370496 ≤ 2251799813685248 := by
  unfold roundI
  rw [show pw 52 = 4503599627370496 from rfl, show pw (52 - 1) = 2251799813685248 from rfl]
  split <;> rename_i c <;> simp at c <;> omega
theorem round53 {P : Int} (_h : 0 ≤ P) : -4503599627370496 ≤ P - roundI P 53 false * 9007199254740992 ∧ P - roundI P 53 false * 9007199254740992 ≤ 4503599627370496 := by
  unfold roundI
  rw [show pw 53 = 9007199254740992 from rfl, show pw (53 - 1) = 4503599627370496 from rfl]
  split <;> rename_i c <;> simp at c <;> omega
theorem frac_facts {x : Int} (h0 : 4607182418800017408 ≤ x) (h1 : x < 4611686018427387904) : Word x ∧ kindI x = 2 ∧ negB x = false ∧ 4503599627370496 ≤ mantI x ∧ mantI x < 9007199254740992 ∧ powI x = -52 := by
  have e1 : expI x = 1023 := by unfold expI; omega
  have f0 : 0 ≤ fracI x ∧ fracI x < 4503599627370496 := by unfold fracI; omega
  refine ⟨⟨by omega, by omega⟩, ?_, ?_, ?_, ?_, ?_⟩
  · have : absI x = x := by unfold absI; omega
    unfold kindI; rw [this, if_neg (by omega), if_neg (by omega), if_pos (by omega)]
  · unfold negB; exact decide_eq_false (by omega)
  · unfold mantI; rw [e1, if_neg (by decide), if_neg (by decide)]; omega
  · unfold mantI; rw [e1, if_neg (by decide), if_neg (by decide)]; omega
  · unfold powI; rw [e1]; rfl
theorem prod_facts {q n p : Int} (hn : n = 105 ∨ n = 106) (q0 : 4503599627370496 ≤ q) (q1 : q ≤ 9007199254740992) (hp : p = q + (n + 917) * 4503599627370496) :
    Word p ∧ kindI p = 2 ∧ negB p = false ∧ XI p = q * pw (n + 917) ∧ p < 9223372036854775808 := by
  have pb : 4503599627370496 ≤ p ∧ p < 9218868437227405312 := by omega
  have ap : absI p = p := by unfold absI; omega
  refine ⟨⟨by omega, by omega⟩, ?_, ?_, ?_, by omega⟩
  · unfold kindI; rw [ap, if_neg (by omega), if_neg (by omega), if_pos (by omega)]
  · unfold negB; exact decide_eq_false (by omega)
  · unfold XI
    by_cases c : q = 9007199254740992
    · have e1 : expI p = n + 919 := by unfold expI; omega
      have e2 : fracI p = 0 := by unfold fracI; omega
      have e3 : mantI p = 4503599627370496 := by unfold mantI; rw [e1, e2, if_neg (by omega), if_neg (by omega)]; rfl
      have e4 : powI p = n - 156 := by unfold powI; rw [e1, if_neg (by omega), if_neg (by omega)]; omega
      rw [e3, e4, c, show n - 156 + 1074 = 1 + (n + 917) by omega, pw_add 1 _ (by decide) (by omega), ← Int.mul_assoc]; rfl
    · have e1 : expI p = n + 918 := by unfold expI; omega
      have e2 : fracI p = q - 4503599627370496 := by unfold fracI; omega
      have e3 : mantI p = q := by unfold mantI; rw [e1, e2, if_neg (by omega), if_neg (by omega)]; omega
      have e4 : powI p = n - 157 := by unfold powI; rw [e1, if_neg (by omega), if_neg (by omega)]; omega
      rw [e3, e4, show n - 157 + 1074 = n + 917 by omega]
def RR (s e : Int) : Int := if s = 0 then 0 else rndI (decide (s < 0)) (if s < 0 then -s else s) e
theorem R2_at (s : Int) {k : Int} (hk : 0 ≤ k) : R2 (s * pw k) = RR s (k - 2148) := by
  have p := pw_pos k
  unfold R2 RR
  by_cases c : s = 0
  · subst c; rw [Int.zero_mul]; rfl
  have c2 : s * pw k ≠ 0 := fun e => by
    rcases Int.mul_eq_zero.1 e with e | e
    · exact c e
    · omega
  rw [if_neg c, if_neg c2]
  by_cases n : s < 0
  · have n2 : s * pw k < 0 := Int.mul_neg_of_neg_of_pos n p
    rw [if_pos n, if_pos n2, decide_eq_true n, decide_eq_true n2, ← Int.neg_mul, rnd_scale _ _ (by omega) hk]; congr 1; omega
  · have n2 : ¬ s * pw k < 0 := by have := Int.mul_nonneg (show 0 ≤ s by omega) (Int.le_of_lt p); omega
    rw [if_neg n, if_neg n2, decide_eq_false n, decide_eq_false n2, rnd_scale _ _ (by omega) hk]; congr 1; omega
theorem R_at (s : Int) {k : Int} (hk : 0 ≤ k) : R (s * pw k) = RR s (k - 1074) := by
  rw [← R2_scale, Int.mul_assoc, ← pw_add _ _ hk (by decide), R2_at s (by omega)]; congr 1; omega
/-- The number that a small int of units is. -/
theorem RR_facts {D : Int} (h0 : -4503599627370496 ≤ D) (h1 : D ≤ 4503599627370496) : Word (RR D (-104)) ∧ kindI (RR D (-104)) < 3 ∧ sX (RR D (-104)) = D * pw 970 ∧ absI (RR D (-104)) ≤ 4372995238176751616 := by
  by_cases c : D = 0
  · subst c
    have e : RR 0 (-104) = 0 := rfl
    rw [e, Int.zero_mul]
    exact ⟨by decide, by decide, by decide, by decide⟩
  · unfold RR
    rw [if_neg c]
    obtain ⟨s, hs⟩ : ∃ s, decide (D < 0) = s := ⟨_, rfl⟩
    obtain ⟨M, hM⟩ : ∃ M, (if D < 0 then -D else D) = M := ⟨_, rfl⟩
    rw [hs, hM]
    have DM : D = if s = true then -M else M := by
      rw [← hs, ← hM]
      by_cases n : D < 0
      · rw [if_pos n, decide_eq_true n]; simp
      · rw [if_neg n, decide_eq_false n]; simp
    have M0 : 0 ≤ M := by rw [← hM]; split <;> omega
    have M1 : M ≤ 4503599627370496 := by rw [← hM]; split <;> omega
    have mono := rnd_mono (-104) M0 M1
    rw [show rndI false 4503599627370496 (-104) = 4372995238176751616 by decide +kernel] at mono
    have ex := rnd_exact M0 (by omega) (show (-1074 : Int) ≤ -104 by decide) (by omega)
    rw [show (-104 : Int) + 1074 = 970 by decide] at ex
    have bd := rnd_bd (-104) M0
    rw [rnd_neg]
    generalize rndI false M (-104) = x at *
    have s01 : signI s = 0 ∨ signI s = 9223372036854775808 := by cases s <;> simp [signI]
    obtain ⟨r, hr⟩ : ∃ r, signI s + x = r := ⟨_, rfl⟩
    rw [hr]
    have rw1 : Word r := by unfold Word; omega
    have ar : absI r = x := by unfold absI; omega
    have xx : absI x = x := by unfold absI; omega
    have xr : XI r = M * pw 970 := by rw [XI_same (ar.trans xx.symm)]; exact ex
    refine ⟨rw1, kind_of_abs (by omega), ?_, by omega⟩
    unfold sX
    rw [xr, DM]
    cases s
    · have : negB r = false := by unfold negB; simp [signI] at hr; simp; omega
      rw [this]; simp
    · have : negB r = true := by unfold negB; simp [signI] at hr; simp; omega
      rw [this]; simp [Int.neg_mul]
theorem left_main {x y : Int} (x0 : 4607182418800017408 ≤ x) (x1 : x < 4611686018427387904) (y0 : 4607182418800017408 ≤ y) (y1 : y < 4611686018427387904) :
    ∃ p l, mulV x y = p ∧ Word p ∧ fmaV x y (turnI p) = l ∧ Word l ∧ addV p l = p ∧ absI l ≤ 4372995238176751616 := by
  obtain ⟨wx, kx, nx, mx0, mx1, px⟩ := frac_facts x0 x1
  obtain ⟨wy, ky, ny, my0, my1, py⟩ := frac_facts y0 y1
  obtain ⟨P, hP⟩ : ∃ P, mantI x * mantI y = P := ⟨_, rfl⟩
  have P0 : 20282409603651670423947251286016 ≤ P := by
    rw [← hP]; exact Int.mul_le_mul mx0 my0 (by decide) (by omega)
  have P1 : P ≤ 81129638414606663681390495662081 := by
    rw [← hP]; exact Int.mul_le_mul (show mantI x ≤ 9007199254740991 by omega) (show mantI y ≤ 9007199254740991 by omega) (by omega) (by decide)
  have XX : XI x * XI y = P * pw 2044 := by
    unfold XI
    rw [px, py, ← hP, show (-52 : Int) + 1074 = 1022 by decide, show pw 2044 = pw 1022 * pw 1022 by rw [← pw_add _ _ (by decide) (by decide)]; rfl]
    generalize pw 1022 = A
    generalize mantI x = m
    generalize mantI y = n
    rw [Int.mul_assoc, Int.mul_left_comm A n A, ← Int.mul_assoc]
  have mv : mulV x y = rndI false P (-104) := by
    unfold mulV mulK
    rw [kx, ky, nx, ny, px, py, hP, if_neg (by decide), if_neg (by decide), if_neg (by decide)]; rfl
  have fm : ∀ c, kindI c = 2 → negB c = true → fmaV x y c = R2 (P * pw 2044 - XI c * pw 1074) := by
    intro c kc nc
    unfold fmaV fmaK
    rw [kx, ky, kc, nx, ny, nc, XX, if_neg (by simp), if_neg (by decide), if_neg (by decide), if_neg (by decide)]
    congr 1
  have hb := blen_bits (show 0 ≤ P by omega)
  have h2 := hb.ge (by omega)
  have h3 := hb.lt
  have n0 : 104 < blen P := by
    have := pw_lt_of (a := 104) (b := (blen P : Int)) (by decide) (by omega) (by rw [show pw 104 = 20282409603651670423947251286016 from rfl]; omega)
    omega
  have n1 : blen P < 107 := by
    have := pw_lt_of (a := (blen P : Int)) (b := 107) (by omega) (by decide) (by rw [show pw 107 = 162259276829213363391578010288128 from rfl]; omega)
    omega
  have full := packV_full false hb (by omega)
  have bd := packV_bd false hb (Int.le_refl _)
  have jv : rndI false P (-104) = packV P ((blen P : Int) - 53) false + ((blen P : Int) + 917) * 4503599627370496 := by
    unfold rndI joinV
    rw [if_neg (by omega), if_neg (by omega), show placeI (-104) (blen P : Int) = (blen P : Int) - 157 by unfold placeI; omega, show signI false = 0 from rfl, show (blen P : Int) - 157 - -104 = (blen P : Int) - 53 by omega, show (blen P : Int) - 157 + 1074 = (blen P : Int) + 917 by omega, Int.zero_add]
  obtain ⟨n, hn⟩ : ∃ n : Int, (blen P : Int) = n := ⟨_, rfl⟩
  rw [hn] at full bd jv
  have nn : n = 105 ∨ n = 106 := by omega
  have pk : packV P (n - 53) false = roundI P (n - 53) false := by unfold packV; rw [if_neg (by omega)]
  rw [pk] at full bd jv
  obtain ⟨D, hD0, hD1, hD⟩ : ∃ D, -4503599627370496 ≤ D ∧ D ≤ 4503599627370496 ∧ P - roundI P (n - 53) false * pw (n - 53) = D := by
    rcases nn with rfl | rfl
    · have := round52 (show 0 ≤ P by omega)
      refine ⟨_, ?_, ?_, rfl⟩
      · show -4503599627370496 ≤ P - roundI P 52 false * 4503599627370496; omega
      · show P - roundI P 52 false * 4503599627370496 ≤ 4503599627370496; omega
    · have := round53 (show 0 ≤ P by omega)
      refine ⟨_, ?_, ?_, rfl⟩
      · show -4503599627370496 ≤ P - roundI P 53 false * 9007199254740992; omega
      · show P - roundI P 53 false * 9007199254740992 ≤ 4503599627370496; omega
  obtain ⟨q, hq⟩ : ∃ q, roundI P (n - 53) false = q := ⟨_, rfl⟩
  rw [hq] at full bd jv hD
  obtain ⟨p, hp⟩ : ∃ p, rndI false P (-104) = p := ⟨_, rfl⟩
  have pe : p = q + (n + 917) * 4503599627370496 := by rw [← hp]; exact jv
  obtain ⟨wp, kp, np, xp, plt⟩ := prod_facts nn full bd.2 pe
  obtain ⟨l1, l2, l3, l4⟩ := RR_facts hD0 hD1
  have lv : fmaV x y (turnI p) = RR D (-104) := by
    rw [fm _ ((kind_turn p).trans kp) (by unfold negB turnI; have := wp.1; simp; omega), XI_turn, xp, Int.mul_assoc, ← pw_add _ _ (by omega) (by decide), show n + 917 + 1074 = (n - 53) + 2044 by omega, pw_add _ _ (by omega) (by decide), ← Int.mul_assoc, ← Int.sub_mul, hD, R2_at D (by decide)]; rfl
  refine ⟨p, RR D (-104), mv.trans hp, wp, lv, l1, ?_, l4⟩
  rw [add_finite wp l1 (by omega) l2 (by omega), l3]
  have sp : sX p = q * pw (n - 53) * pw 970 := by
    unfold sX; rw [np, if_neg (by decide), xp, show n + 917 = (n - 53) + 970 by omega, pw_add _ _ (by omega) (by decide), ← Int.mul_assoc]
  rw [sp, ← Int.add_mul, show q * pw (n - 53) + D = P by omega, R_at P (by decide)]
  unfold RR
  rw [if_neg (by omega), if_neg (by omega), decide_eq_false (by omega), show (970 : Int) - 1074 = -104 by decide]
  exact hp
end Go.Proofs.YtnefacnceemklaaDoor
