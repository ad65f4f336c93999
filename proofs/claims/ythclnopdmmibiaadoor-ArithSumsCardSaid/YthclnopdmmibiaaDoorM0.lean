/-
  Sums of signed naturals: plain facts.
-/
import Derived.Test.YthclnopdmmibiaaDoorA6
import Derived.Test.YthclnopdmmibiaaDoorL11
namespace Go.Proofs.YthclnopdmmibiaaDoor
open Go.RowKit Go.Shelf

theorem sign_abs (x : Int) (h : Word x) : signI (negB x) + absI x = x := by
  unfold signI negB absI Word at *
  by_cases c : 9223372036854775808 ≤ x
  · rw [decide_eq_true c]; simp; omega
  · rw [decide_eq_false c]; simp; omega
theorem sX_ne {x : Int} (h : Word x) (hk : kindI x < 3) (h0 : kindI x ≠ 0) : 1 ≤ XI x := by
  have := XI_zero x h (fin_of_kind h hk)
  have := XI_nonneg x h
  have := nz_of_kind h hk h0
  omega
theorem R_pos {s : Int} (h : 0 ≤ s) : R s = rndI false s (-1074) := by
  unfold R
  by_cases c : s = 0
  · rw [if_pos c, c, rnd_zero]; rfl
  · rw [if_neg c, if_neg (by omega), decide_eq_false (by omega)]
theorem R_min {s : Int} (h : s < 0) : R s = rndI true (-s) (-1074) := by
  unfold R
  rw [if_neg (by omega), if_pos h, decide_eq_true h]
theorem R_of (b : Bool) {v : Int} (h : 1 ≤ v) : R (if b = true then -v else v) = rndI b v (-1074) := by
  cases b
  · exact R_pos (by simp; omega)
  · have := R_min (s := -v) (by omega)
    rw [Int.neg_neg] at this; exact this
theorem kind_zero {x : Int} : kindI x = 0 ↔ absI x = 0 := by
  have : 0 ≤ absI x := by unfold absI; omega
  unfold kindI
  repeat' split
  all_goals omega
theorem R_self {x : Int} (h : Word x) (hk : kindI x < 3) (h0 : kindI x ≠ 0) : R (sX x) = x := by
  unfold sX
  rw [R_of _ (sX_ne h hk h0), rnd_neg, rnd_self x h (fin_of_kind h hk), sign_abs x h]
theorem sX_zero {x : Int} (h : Word x) (h0 : kindI x = 0) : sX x = 0 := by
  have := (XI_zero x h (fin_of_kind h (by omega))).2 (kind_zero.1 h0)
  unfold sX; rw [this]; split <;> rfl

theorem zero_val {x : Int} (h : Word x) (hk : kindI x = 0) : x = 0 ∨ x = 9223372036854775808 := by
  unfold kindI absI at hk
  unfold Word at h
  repeat' split at hk
  all_goals omega
theorem and_zeros {a b : Int} (h1 : Word a) (h2 : Word b) (ha : kindI a = 0) (hb : kindI b = 0) : bits .and .u64 a b = if a = 9223372036854775808 ∧ b = 9223372036854775808 then 9223372036854775808 else 0 := by
  rcases zero_val h1 ha with rfl | rfl <;> rcases zero_val h2 hb with rfl | rfl <;> decide


/-- A natural with a sign, that is the signed sum s. -/
structure IsSum (s : Int) (b : Bool) (v : Int) : Prop where
  v0 : 0 ≤ v
  e : s = if b = true then -v else v
theorem sum_same {a b : Int} (h1 : Word a) (h2 : Word b) {n : Bool} (ha : negB a = n) (hb : negB b = n) : IsSum (sX a + sX b) n (XI a + XI b) := by
  have p := XI_nonneg a h1
  have q := XI_nonneg b h2
  refine ⟨by omega, ?_⟩
  unfold sX; rw [ha, hb]; cases n <;> simp <;> omega
theorem sum_ge {a b : Int} {n m : Bool} (ha : negB a = n) (hb : negB b = m) (hne : (n == m) = false) (hge : XI b ≤ XI a) : IsSum (sX a + sX b) n (XI a - XI b) := by
  refine ⟨by omega, ?_⟩
  unfold sX; rw [ha, hb]; cases n <;> cases m <;> simp at hne <;> simp <;> omega
theorem sum_lt {a b : Int} {n m : Bool} (ha : negB a = n) (hb : negB b = m) (hne : (n == m) = false) (hlt : XI a < XI b) : IsSum (sX a + sX b) m (XI b - XI a) := by
  refine ⟨by omega, ?_⟩
  unfold sX; rw [ha, hb]; cases n <;> cases m <;> simp at hne <;> simp <;> omega
/-- What is rounded of it. -/
theorem sum_zero {s : Int} {b : Bool} (h : IsSum s b 0) : R s = 0 := by
  have : s = 0 := by rw [h.e]; cases b <;> rfl
  rw [this]; rfl
theorem sum_round {s : Int} {b : Bool} {v : Int} (h : IsSum s b v) (hv : v ≠ 0) : R s = rndI b v (-1074) := by
  have := h.v0
  rw [h.e]; exact R_of b (by omega)
/-- Add's answer at finite numbers, not both zero. -/
theorem add_finite {a b : Int} (h1 : Word a) (h2 : Word b) (ka : kindI a < 3) (kb : kindI b < 3) (hz : ¬(kindI a = 0 ∧ kindI b = 0)) : addV a b = R (sX a + sX b) := by
  unfold addV addK
  rw [if_neg (by omega), if_neg (by omega), if_neg (by omega)]
  by_cases a0 : kindI a = 0
  · rw [if_pos a0, if_neg (by omega), sX_zero h1 a0, Int.zero_add, R_self h2 kb (by omega)]
  · rw [if_neg a0]
    by_cases b0 : kindI b = 0
    · rw [if_pos b0, sX_zero h2 b0, Int.add_zero, R_self h1 ka a0]
    · rw [if_neg b0]
theorem add_zeros {a b : Int} (h1 : Word a) (h2 : Word b) (ka : kindI a = 0) (kb : kindI b = 0) : addV a b = signI (negB a && negB b) := by
  unfold addV addK
  rw [if_neg (by omega), if_neg (by omega), if_neg (by omega), if_pos ka, if_pos kb]
  rcases zero_val h1 ka with rfl | rfl <;> rcases zero_val h2 kb with rfl | rfl <;> decide
theorem joinV_len {neg more : Bool} {v e : Int} {n : Nat} (h : Bits v n) : joinV neg v e n more = joinV neg v e (blen v) more := by
  by_cases hz : v = 0
  · unfold joinV; rw [if_pos (.inl hz), if_pos (.inl hz)]
  · rw [blen_of hz h]
theorem rround_len (neg : Bool) (A : Option Addr) (n c : Nat) (l : List Int) (e : Int) (w : World) (h : Sl w w.heap.size A n c l) (hn : n ≤ 3000) (he0 : -9223372036854775808 ≤ e) (he1 : e ≤ 9223372036854775807) {v r : Int} (hv : natV l = v) (hr : rndI neg v e = r) :
    Calls Tryd.prog 22 #[.bool neg, .slice A n c, .int .i64 e, .bool false] w (WordPost r w) := by
  refine (rround_any neg A n c l e false w h hn he0 he1).mono ?_
  rintro en w' ⟨L, hL, rfl, hb⟩
  refine ⟨?_, hb⟩
  obtain ⟨k, rfl, hk⟩ := hL.bits
  rw [joinV_len hk, hv, ← hr]; rfl
end Go.Proofs.YthclnopdmmibiaaDoor
