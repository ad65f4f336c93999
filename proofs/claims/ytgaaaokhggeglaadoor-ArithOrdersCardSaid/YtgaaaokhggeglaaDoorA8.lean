/-
  What sums and products are, turned round.
-/
import Derived.Test.YtgaaaokhggeglaaDoorA7
namespace Go.Proofs.YtgaaaokhggeglaaDoor
open Go.RowKit Go.Shelf

theorem negI_fin {x : Int} (h : kindI x ≠ 4) : negI x = turnI x := by unfold negI; rw [if_neg h]
theorem turn_abs (x : Int) (_h : Word x) : absI (turnI x) = absI x := by unfold absI turnI Word at *; omega
theorem turn_turn (x : Int) (h : Word x) : turnI (turnI x) = x := by unfold turnI Word at *; omega
theorem turn_word (x : Int) : Word (turnI x) := by unfold turnI Word; omega
theorem turn_negB (x : Int) (h : Word x) : negB (turnI x) = !negB x := by
  unfold negB turnI Word at *
  by_cases c : 9223372036854775808 ≤ x
  · rw [decide_eq_true c, decide_eq_false (by omega)]; rfl
  · rw [decide_eq_false c, decide_eq_true (by omega)]; rfl
theorem kind_abs {x y : Int} (h : absI x = absI y) : kindI x = kindI y := by unfold kindI; rw [h]
theorem turn_kind (x : Int) (h : Word x) : kindI (turnI x) = kindI x := kind_abs (turn_abs x h)
theorem neg_kind (x : Int) (h : Word x) : kindI (negI x) = kindI x := by
  by_cases c : kindI x = 4
  · rw [c]; unfold negI; rw [if_pos c]; rfl
  · rw [negI_fin c, turn_kind x h]
theorem turn_XI (x : Int) (h : Word x) : XI (turnI x) = XI x ∧ mantI (turnI x) = mantI x ∧ powI (turnI x) = powI x := XI_abs (turn_word x) h (turn_abs x h)
theorem turn_sX (x : Int) (h : Word x) : sX (turnI x) = -sX x := by
  unfold sX
  rw [turn_negB x h, (turn_XI x h).1]
  cases negB x <;> simp
theorem R_neg (s : Int) (hs : s ≠ 0) : R (-s) = turnI (R s) := by
  unfold R
  rw [if_neg (by omega), if_neg hs, rnd_neg, rnd_neg (decide (s < 0))]
  have e : (if -s < 0 then - -s else -s) = (if s < 0 then -s else s) := by split <;> split <;> omega
  rw [e]
  have h0 : 0 ≤ (if s < 0 then -s else s) := by split <;> omega
  have := rnd_bd (-1074) h0
  generalize rndI false (if s < 0 then -s else s) (-1074) = r at *
  unfold signI turnI
  by_cases c : s < 0
  · rw [decide_eq_true c, decide_eq_false (by omega)]; simp; omega
  · rw [decide_eq_false c, decide_eq_true (by omega)]; simp; omega
theorem R_kind (s : Int) : kindI (R s) ≠ 4 := by
  unfold R
  split
  · decide
  · have h0 : 0 ≤ (if s < 0 then -s else s) := by split <;> omega
    have := rnd_bd (-1074) h0
    rw [rnd_neg]
    generalize rndI false (if s < 0 then -s else s) (-1074) = r at *
    unfold kindI absI signI
    split <;> (repeat' split) <;> omega
theorem and_comm' {a b : Int} (h1 : Word a) (h2 : Word b) : bits .and .u64 a b = bits .and .u64 b a := by
  obtain ⟨n, rfl⟩ := Int.eq_ofNat_of_zero_le h1.1
  obtain ⟨m, rfl⟩ := Int.eq_ofNat_of_zero_le h2.1
  rw [u64_and_nat n m (by have := h1.2; omega) (by have := h2.2; omega), u64_and_nat m n (by have := h2.2; omega) (by have := h1.2; omega), Nat.and_comm]
theorem addV_comm {a b : Int} (h1 : Word a) (h2 : Word b) : addV a b = addV b a := by
  have e := and_comm' h1 h2
  unfold addV addK
  generalize kindI a = k
  generalize kindI b = j
  rw [e, Int.add_comm (sX a)]
  repeat' split
  all_goals omega
theorem mulV_comm (a b : Int) : mulV a b = mulV b a := by
  unfold mulV mulK
  have e : (negB a != negB b) = (negB b != negB a) := by cases negB a <;> cases negB b <;> rfl
  rw [e, Int.mul_comm (mantI a), Int.add_comm (powI a)]
  generalize kindI a = k
  generalize kindI b = j
  repeat' split
  all_goals omega
theorem zero_val {x : Int} (h : Word x) (hk : kindI x = 0) : x = 0 ∨ x = 9223372036854775808 := by
  unfold kindI absI at hk
  unfold Word at h
  repeat' split at hk
  all_goals omega
theorem and_zeros {a b : Int} (h1 : Word a) (h2 : Word b) (ha : kindI a = 0) (hb : kindI b = 0) : bits .and .u64 a b = if a = 9223372036854775808 ∧ b = 9223372036854775808 then 9223372036854775808 else 0 := by
  rcases zero_val h1 ha with rfl | rfl <;> rcases zero_val h2 hb with rfl | rfl <;> decide

/-- A difference and the other one. -/
theorem sub_turn {a b : Int} (h1 : Word a) (h2 : Word b) : (subV a b = 0 ∧ subV b a = 0) ∨ subV a b = negI (subV b a) ∨ (subV a b % 9223372036854775808 = 0 ∧ subV b a % 9223372036854775808 = 0) := by
  have na := neg_kind a h1
  have nb := neg_kind b h2
  have za := neg_word a h1
  have zb := neg_word b h2
  have aa : (bits .and .u64 a (negI b) = (if a = 9223372036854775808 ∧ negI b = 9223372036854775808 then 9223372036854775808 else 0)) ∨ ¬(kindI a = 0 ∧ kindI b = 0) := by
    by_cases c : kindI a = 0 ∧ kindI b = 0
    · exact .inl (and_zeros h1 zb c.1 (nb.trans c.2))
    · exact .inr c
  have bb : (bits .and .u64 b (negI a) = (if b = 9223372036854775808 ∧ negI a = 9223372036854775808 then 9223372036854775808 else 0)) ∨ ¬(kindI a = 0 ∧ kindI b = 0) := by
    by_cases c : kindI a = 0 ∧ kindI b = 0
    · exact .inl (and_zeros h2 za c.2 (na.trans c.1))
    · exact .inr c
  unfold subV addV addK
  rw [na, nb]
  have ka := kind_bd a
  have kb := kind_bd b
  by_cases c4 : kindI a = 4 ∨ kindI b = 4
  · rw [if_pos c4, if_pos (by omega)]; exact .inr (.inl rfl)
  rw [if_neg c4, if_neg (show ¬(kindI b = 4 ∨ kindI a = 4) by omega)]
  have ea := negI_fin (x := a) (by omega)
  have eb := negI_fin (x := b) (by omega)
  have eaa : negI (negI a) = a := by rw [negI_fin (by rw [na]; omega), ea, turn_turn a h1]
  have ebb : negI (negI b) = b := by rw [negI_fin (by rw [nb]; omega), eb, turn_turn b h2]
  by_cases k3 : kindI a = 3
  · by_cases j3 : kindI b = 3
    · rw [if_pos k3, if_pos j3, if_pos j3, if_pos k3]
      by_cases c : a = negI b
      · have : b = negI a := by rw [c, ebb]
        rw [if_pos c, if_pos this]; exact .inr (.inl c)
      · have : ¬ b = negI a := fun e => c (by rw [e, eaa])
        rw [if_neg c, if_neg this]; exact .inr (.inl rfl)
    · rw [if_pos k3, if_neg j3, if_neg j3, if_pos k3]; exact .inr (.inl eaa.symm)
  · by_cases j3 : kindI b = 3
    · rw [if_neg k3, if_pos j3, if_pos j3, if_neg k3]; exact .inr (.inl rfl)
    · rw [if_neg k3, if_neg j3, if_neg j3, if_neg k3]
      by_cases k0 : kindI a = 0
      · by_cases j0 : kindI b = 0
        · rw [if_pos k0, if_pos j0, if_pos j0, if_pos k0]
          refine .inr (.inr ?_)
          rcases aa with aa | aa
          · rcases bb with bb | bb
            · rw [aa, bb]
              constructor <;> split <;> rfl
            · exact absurd ⟨k0, j0⟩ bb
          · exact absurd ⟨k0, j0⟩ aa
        · rw [if_pos k0, if_neg j0, if_neg j0, if_pos k0]; exact .inr (.inl rfl)
      · by_cases j0 : kindI b = 0
        · rw [if_neg k0, if_pos j0, if_pos j0, if_neg k0]; exact .inr (.inl eaa.symm)
        · rw [if_neg k0, if_neg j0, if_neg j0, if_neg k0, ea, eb, turn_sX a h1, turn_sX b h2]
          by_cases s0 : sX b + -sX a = 0
          · rw [s0, show sX a + -sX b = 0 by omega]; exact .inl ⟨rfl, rfl⟩
          · refine .inr (.inl ?_)
            rw [negI_fin (R_kind _), ← R_neg _ s0]; congr 1; omega
theorem sign_kind (s : Bool) : kindI (signI s) = 0 ∧ kindI (signI s + 9218868437227405312) = 3 := by cases s <;> decide
theorem sign_turn (s : Bool) (r : Int) (h0 : 0 ≤ r) (h1 : r ≤ 9218868437227405312) : signI (!s) + r = turnI (signI s + r) := by
  cases s <;> simp [signI, turnI] <;> omega
theorem mul_turn {a b : Int} (h1 : Word a) (_h2 : Word b) : mulV (negI a) b = negI (mulV a b) := by
  have na := neg_kind a h1
  unfold mulV mulK
  rw [na]
  by_cases c4 : kindI a = 4 ∨ kindI b = 4 ∨ (kindI a = 3 ∧ kindI b = 0) ∨ (kindI a = 0 ∧ kindI b = 3)
  · rw [if_pos c4, if_pos c4]; rfl
  rw [if_neg c4, if_neg c4]
  have ea := negI_fin (x := a) (by omega)
  have e : (negB (negI a) != negB b) = !(negB a != negB b) := by rw [ea, turn_negB a h1]; cases negB a <;> cases negB b <;> rfl
  rw [e]
  obtain ⟨_, em, ep⟩ := turn_XI a h1
  generalize (negB a != negB b) = s
  by_cases c3 : kindI a = 3 ∨ kindI b = 3
  · rw [if_pos c3, if_pos c3, negI_fin (by rw [(sign_kind s).2]; decide), sign_turn s _ (by decide) (by decide)]
  rw [if_neg c3, if_neg c3]
  by_cases c0 : kindI a = 0 ∨ kindI b = 0
  · rw [if_pos c0, if_pos c0, negI_fin (by rw [(sign_kind s).1]; decide)]
    have := sign_turn s 0 (by decide) (by decide)
    simpa using this
  rw [if_neg c0, if_neg c0, ea, em, ep]
  have h0 := Int.mul_nonneg (mant_bd a h1).1 (mant_bd b _h2).1
  have := rnd_bd (powI a + powI b) h0
  have h4 : kindI (rndI s (mantI a * mantI b) (powI a + powI b)) ≠ 4 := by
    rw [rnd_neg]
    generalize rndI false (mantI a * mantI b) (powI a + powI b) = r at *
    unfold kindI absI signI
    split <;> (repeat' split) <;> omega
  rw [negI_fin h4, rnd_neg, rnd_neg s, sign_turn s _ this.1 this.2]
end Go.Proofs.YtgaaaokhggeglaaDoor
