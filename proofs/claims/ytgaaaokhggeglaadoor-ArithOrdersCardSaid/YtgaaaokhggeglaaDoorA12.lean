/-
  Sums and products keep the order.
-/
import Derived.Test.YtgaaaokhggeglaaDoorA10
namespace Go.Proofs.YtgaaaokhggeglaaDoor
open Go.RowKit Go.Shelf

theorem rank_abs (x : Int) (h : Word x) : rankI x = if negB x = true then -absI x else absI x := by
  unfold rankI absI negB Word at *
  by_cases c : 9223372036854775808 ≤ x
  · rw [decide_eq_true c]; simp; omega
  · rw [decide_eq_false c]; simp; omega
theorem abs_nonneg (x : Int) : 0 ≤ absI x := by unfold absI; omega
theorem abs_le {x : Int} (hk : kindI x ≠ 4) : absI x ≤ 9218868437227405312 := by
  unfold kindI at hk
  repeat' split at hk
  all_goals omega
theorem rank_sX {a b : Int} (h1 : Word a) (h2 : Word b) (ka : kindI a < 3) (kb : kindI b < 3) (h : rankI a ≤ rankI b) : sX a ≤ sX b := by
  have fa := fin_of_kind h1 ka
  have fb := fin_of_kind h2 kb
  rw [rank_abs a h1, rank_abs b h2] at h
  have pa := abs_nonneg a
  have pb := abs_nonneg b
  have xa := XI_nonneg a h1
  have xb := XI_nonneg b h2
  have za := XI_zero a h1 fa
  have zb := XI_zero b h2 fb
  have i1 := XI_le_iff h1 h2 fa fb
  have i2 := XI_le_iff h2 h1 fb fa
  unfold sX
  generalize negB a = s at *
  generalize negB b = t at *
  cases s <;> cases t <;> simp at h ⊢ <;> omega
theorem rank_signed (s : Bool) {r : Int} (h0 : 0 ≤ r) (h1 : r ≤ 9218868437227405312) : rankI (signI s + r) = if s = true then -r else r := by
  cases s
  · have e : negB (signI false + r) = false := by unfold negB signI; exact decide_eq_false (by simp; omega)
    unfold rankI; rw [e]; simp [signI]
  · have e : negB (signI true + r) = true := by unfold negB signI; exact decide_eq_true (by simp; omega)
    unfold rankI; rw [e]; simp [signI]; omega
theorem rank_R (s : Int) : rankI (R s) = if s < 0 then -(rndI false (-s) (-1074)) else rndI false s (-1074) := by
  by_cases c : s < 0
  · have b := rnd_bd (-1074) (show 0 ≤ -s by omega)
    rw [R_min c, rnd_neg, rank_signed true b.1 b.2, if_pos c]; rfl
  · have b := rnd_bd (-1074) (show 0 ≤ s by omega)
    have := rank_signed false b.1 b.2
    rw [R_pos (by omega), if_neg c]; simpa [signI] using this
theorem rank_R_bd (s : Int) : -9218868437227405312 ≤ rankI (R s) ∧ rankI (R s) ≤ 9218868437227405312 := by
  rw [rank_R]
  split
  · have := rnd_bd (-1074) (show 0 ≤ -s by omega); omega
  · have := rnd_bd (-1074) (show 0 ≤ s by omega); omega
theorem rank_R_mono {s t : Int} (h : s ≤ t) : rankI (R s) ≤ rankI (R t) := by
  rw [rank_R, rank_R]
  by_cases c1 : s < 0
  · rw [if_pos c1]
    have b1 := rnd_bd (-1074) (show 0 ≤ -s by omega)
    by_cases c2 : t < 0
    · rw [if_pos c2]
      have := rnd_mono (-1074) (show 0 ≤ -t by omega) (show -t ≤ -s by omega)
      omega
    · rw [if_neg c2]
      have b2 := rnd_bd (-1074) (show 0 ≤ t by omega)
      omega
  · rw [if_neg c1, if_neg (by omega)]
    exact rnd_mono (-1074) (by omega) h
theorem R_self {x : Int} (h : Word x) (hk : kindI x < 3) (h0 : kindI x ≠ 0) : R (sX x) = x := by
  unfold sX
  rw [R_of _ (sX_ne h hk h0), rnd_neg, rnd_self x h (fin_of_kind h hk), sign_abs x h]
theorem sX_zero {x : Int} (h : Word x) (h0 : kindI x = 0) : sX x = 0 := by
  have := (XI_zero x h (fin_of_kind h (by omega))).2 (kind_zero.1 h0)
  unfold sX; rw [this]; split <;> rfl

/-- Where a sum of finite numbers stands. -/
theorem add_rank {a c : Int} (h1 : Word a) (h2 : Word c) (ka : kindI a < 3) (kc : kindI c < 3) : rankI (addV a c) = rankI (R (sX a + sX c)) ∧ kindI (addV a c) ≠ 4 := by
  by_cases a0 : kindI a = 0
  · rw [sX_zero h1 a0, Int.zero_add]
    by_cases c0 : kindI c = 0
    · rw [sX_zero h2 c0]
      have : addV a c = bits .and .u64 a c := by unfold addV addK; rw [a0, c0]; simp
      rw [this]
      rcases zero_val h1 a0 with rfl | rfl <;> rcases zero_val h2 c0 with rfl | rfl <;> decide +kernel
    · have : addV a c = c := by
        unfold addV addK; rw [a0, if_neg (by omega), if_neg (by omega), if_neg (by omega), if_pos rfl, if_neg c0]
      rw [this, R_self h2 kc c0]; exact ⟨rfl, by omega⟩
  · by_cases c0 : kindI c = 0
    · have : addV a c = a := by
        unfold addV addK; rw [c0, if_neg (by omega), if_neg (by omega), if_neg (by omega), if_neg a0, if_pos rfl]
      rw [this, sX_zero h2 c0, Int.add_zero, R_self h1 ka a0]; exact ⟨rfl, by omega⟩
    · rw [add_fin ka kc a0 c0]; exact ⟨rfl, R_kind _⟩
theorem kind_nan : kindI 9221120237041090560 = 4 := by decide
theorem inf_val {x : Int} (h : Word x) (hk : kindI x = 3) : rankI x = if negB x = true then -9218868437227405312 else 9218868437227405312 := by
  rw [rank_abs x h, kind_inf hk]
theorem rank_bd {x : Int} (h : Word x) (hk : kindI x ≠ 4) : -9218868437227405312 ≤ rankI x ∧ rankI x ≤ 9218868437227405312 := by
  rw [rank_abs x h]
  have := abs_le hk
  have := abs_nonneg x
  split <;> omega
theorem rank_fin {x : Int} (h : Word x) (hk : kindI x < 3) : -9218868437227405312 < rankI x ∧ rankI x < 9218868437227405312 := by
  rw [rank_abs x h]
  have := kind_lt.1 hk
  have := abs_nonneg x
  split <;> omega

/-- Sums keep the order. -/
theorem add_order {a b c : Int} (h1 : Word a) (h2 : Word b) (h3 : Word c) (ka : kindI a ≠ 4) (kb : kindI b ≠ 4) (h : rankI a ≤ rankI b) :
    ((addV a c = 9221120237041090560 ∨ addV b c = 9221120237041090560) → 3 ≤ kindI c) ∧
    (addV a c ≠ 9221120237041090560 → addV b c ≠ 9221120237041090560 → rankI (addV a c) ≤ rankI (addV b c)) := by
  have bka := kind_bd a
  have bkb := kind_bd b
  have bkc := kind_bd c
  have inf : ∀ x, kindI x = 3 → kindI c < 3 → addV x c = x := by
    intro x hx hc
    unfold addV addK; rw [if_neg (by omega), if_pos hx, if_neg (by omega)]
  have infc : ∀ x, kindI x < 3 → kindI c = 3 → addV x c = c := by
    intro x hx hc
    unfold addV addK; rw [if_neg (by omega), if_neg (by omega), if_pos hc]
  have both : ∀ x, kindI x = 3 → kindI c = 3 → addV x c = c ∨ addV x c = 9221120237041090560 := by
    intro x hx hc
    unfold addV addK; rw [if_neg (by omega), if_pos hx, if_pos hc]
    split
    · left; assumption
    · exact .inr rfl
  have nanc : ∀ x, kindI c = 4 → addV x c = 9221120237041090560 := by
    intro x hc
    unfold addV addK; rw [if_pos (.inr hc)]
  by_cases c3 : 3 ≤ kindI c
  · refine ⟨fun _ => c3, fun n1 n2 => ?_⟩
    by_cases c4 : kindI c = 4
    · exact absurd (nanc a c4) n1
    · have c3 : kindI c = 3 := by omega
      have ea : addV a c = c := by
        by_cases k : kindI a = 3
        · exact (both a k c3).resolve_right n1
        · exact infc a (by omega) c3
      have eb : addV b c = c := by
        by_cases k : kindI b = 3
        · exact (both b k c3).resolve_right n2
        · exact infc b (by omega) c3
      rw [ea, eb]; exact Int.le_refl _
  · have kc : kindI c < 3 := by omega
    have good : ∀ x, Word x → kindI x ≠ 4 → kindI (addV x c) ≠ 4 := by
      intro x hx hk
      by_cases k : kindI x = 3
      · rw [inf x k kc]; exact hk
      · have := kind_bd x; exact (add_rank hx h3 (by omega) kc).2
    refine ⟨?_, fun _ _ => ?_⟩
    · rintro (e | e)
      · have := good a h1 ka; rw [e, kind_nan] at this; exact absurd rfl this
      · have := good b h2 kb; rw [e, kind_nan] at this; exact absurd rfl this
    · by_cases k : kindI a = 3
      · rw [inf a k kc]
        by_cases k' : kindI b = 3
        · rw [inf b k' kc]; exact h
        · have r1 := add_rank h2 h3 (by omega) kc
          have r2 := rank_R_bd (sX b + sX c)
          have r3 := inf_val h1 k
          have r4 := rank_fin h2 (by omega)
          rw [r1.1]
          split at r3 <;> omega
      · have r0 := add_rank h1 h3 (by omega) kc
        have r5 := rank_R_bd (sX a + sX c)
        rw [r0.1]
        by_cases k' : kindI b = 3
        · rw [inf b k' kc]
          have r3 := inf_val h2 k'
          have r4 := rank_fin h1 (by omega)
          split at r3 <;> omega
        · rw [(add_rank h2 h3 (by omega) kc).1]
          exact rank_R_mono (by have := rank_sX h1 h2 (by omega) (by omega) h; omega)

/-- The amount of a product. -/
def magI (a c : Int) : Int := if kindI a = 3 ∨ kindI c = 3 then 9218868437227405312 else rndI false (XI a * XI c) (-2148)
theorem XX_nonneg {a c : Int} (h1 : Word a) (h2 : Word c) : 0 ≤ XI a * XI c := Int.mul_nonneg (XI_nonneg a h1) (XI_nonneg c h2)
theorem mag_bd {a c : Int} (h1 : Word a) (h2 : Word c) : 0 ≤ magI a c ∧ magI a c ≤ 9218868437227405312 := by
  unfold magI
  split
  · omega
  · exact rnd_bd _ (XX_nonneg h1 h2)
theorem mul_mag {a c : Int} (h1 : Word a) (h2 : Word c) (hn : mulV a c ≠ 9221120237041090560) : rankI (mulV a c) = if (negB a != negB c) = true then -magI a c else magI a c := by
  unfold mulV mulK magI at *
  by_cases c4 : kindI a = 4 ∨ kindI c = 4 ∨ (kindI a = 3 ∧ kindI c = 0) ∨ (kindI a = 0 ∧ kindI c = 3)
  · rw [if_pos c4] at hn; exact absurd rfl hn
  rw [if_neg c4]
  have ba := kind_bd a
  have bc := kind_bd c
  by_cases c3 : kindI a = 3 ∨ kindI c = 3
  · rw [if_pos c3, if_pos c3]; exact rank_signed _ (by decide) (by decide)
  rw [if_neg c3, if_neg c3]
  by_cases c0 : kindI a = 0 ∨ kindI c = 0
  · rw [if_pos c0]
    have : XI a * XI c = 0 := by
      rcases c0 with c0 | c0
      · rw [(XI_zero a h1 (fin_of_kind h1 (by omega))).2 (kind_zero.1 c0), Int.zero_mul]
      · rw [(XI_zero c h2 (fin_of_kind h2 (by omega))).2 (kind_zero.1 c0), Int.mul_zero]
    rw [this, rnd_zero]
    have := rank_signed (negB a != negB c) (r := 0) (by decide) (by decide)
    rw [Int.add_zero] at this
    rw [this]; rfl
  rw [if_neg c0]
  have ma := mant_bd a h1
  have mc := mant_bd c h2
  have e : XI a * XI c = mantI a * mantI c * pw (powI a + powI c + 2148) := by
    unfold XI
    rw [show powI a + powI c + 2148 = (powI a + 1074) + (powI c + 1074) by omega, pw_add (powI a + 1074) (powI c + 1074) (by omega) (by omega)]
    simp only [Int.mul_assoc, Int.mul_left_comm]
  rw [e, rnd_scale _ _ (Int.mul_nonneg ma.1 mc.1) (by omega), show -2148 + (powI a + powI c + 2148) = powI a + powI c by omega, rnd_neg]
  have := rnd_bd (powI a + powI c) (Int.mul_nonneg ma.1 mc.1)
  exact rank_signed _ this.1 this.2
theorem mag_mono {a b c : Int} (h1 : Word a) (h2 : Word b) (h3 : Word c) (_ka : kindI a ≠ 4) (kb : kindI b ≠ 4) (h : absI a ≤ absI b) : magI a c ≤ magI b c := by
  have ba := kind_bd a
  have bb := kind_bd b
  unfold magI
  by_cases c3 : kindI c = 3
  · rw [if_pos (.inr c3), if_pos (.inr c3)]; omega
  by_cases b3 : kindI b = 3
  · rw [if_pos (show kindI b = 3 ∨ kindI c = 3 from .inl b3)]
    have := mag_bd (a := a) h1 h3
    unfold magI at this
    exact this.2
  have kbl : kindI b < 3 := by omega
  have kal : kindI a < 3 := kind_lt.2 (by have := kind_lt.1 kbl; omega)
  rw [if_neg (by omega), if_neg (by omega)]
  exact rnd_mono _ (XX_nonneg h1 h3) (Int.mul_le_mul_of_nonneg_right (XI_le h1 h2 (fin_of_kind h1 kal) (fin_of_kind h2 kbl) h) (XI_nonneg c h3))
theorem mag_zero {a c : Int} (h1 : Word a) (_h3 : Word c) (h0 : absI a = 0) (hn : mulV a c ≠ 9221120237041090560) : magI a c = 0 := by
  have k0 := kind_zero.2 h0
  have c3 : kindI c ≠ 3 := fun e => by
    apply hn; unfold mulV mulK; rw [if_pos (by omega)]
  unfold magI
  rw [if_neg (by omega), (XI_zero a h1 (fin_of_kind h1 (by omega))).2 h0, Int.zero_mul, rnd_zero]; rfl

/-- Products keep the order, or turn it. -/
theorem mul_order {a b c : Int} (h1 : Word a) (h2 : Word b) (h3 : Word c) (ka : kindI a ≠ 4) (kb : kindI b ≠ 4) (h : rankI a ≤ rankI b)
    (n1 : mulV a c ≠ 9221120237041090560) (n2 : mulV b c ≠ 9221120237041090560) :
    if negB c = true then rankI (mulV b c) ≤ rankI (mulV a c) else rankI (mulV a c) ≤ rankI (mulV b c) := by
  rw [mul_mag h1 h3 n1, mul_mag h2 h3 n2]
  rw [rank_abs a h1, rank_abs b h2] at h
  have pa := abs_nonneg a
  have pb := abs_nonneg b
  have ba := mag_bd h1 h3
  have bb := mag_bd h2 h3
  have za := fun e => mag_zero h1 h3 e n1
  have zb := fun e => mag_zero h2 h3 e n2
  have i1 := fun e => mag_mono h1 h2 h3 ka kb e
  have i2 := fun e => mag_mono h2 h1 h3 kb ka e
  generalize magI a c = x at *
  generalize magI b c = y at *
  generalize absI a = u at *
  generalize absI b = v at *
  generalize negB a = s at *
  generalize negB b = t at *
  generalize negB c = q at *
  cases s <;> cases t <;> cases q <;> simp at h ⊢
  all_goals first
    | (have := i1 (by omega); omega)
    | (have := i2 (by omega); omega)
    | (have := za (by omega); have := zb (by omega); omega)
    | omega
end Go.Proofs.YtgaaaokhggeglaaDoor
