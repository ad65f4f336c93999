/-
  Decimals: where the point stands and which is greater: plain values.
-/
import Derived.Test.YtgjhpcmpgkfnkaaDoorA5
namespace Go.Proofs.YtgjhpcmpgkfnkaaDoor
open Go.RowKit Go.Shelf

/-- How many digits stand ahead of the point. -/
def pointV (l : List UInt8) (x : Int) : Int := if rightV l x = true then (l.length : Int) + x else 0
/-- The sign. -/
def sgnV (b : Bool) (l : List UInt8) : Int := if l = [] then 0 else if b = true then -1 else 1
/-- Which is greater, without signs. -/
def sizeV (l : List UInt8) (x : Int) (m : List UInt8) (y : Int) : Int := if pointV l x < pointV m y then -1 else if pointV m y < pointV l x then 1 else Lib.compareBytes l m
/-- Which is greater. -/
def cmpV (b : Bool) (l : List UInt8) (x : Int) (c : Bool) (m : List UInt8) (y : Int) : Int :=
  if (rightV l x && rightV m y) = true then
    (if sgnV b l < sgnV c m then -1 else if sgnV c m < sgnV b l then 1 else if sgnV b l < 0 then sizeV m y l x else sizeV l x m y)
  else 0
theorem rightV_nil (x : Int) : rightV [] x = decide (x = 0) := rfl
theorem rightV_len {l : List UInt8} {x : Int} (h : rightV l x = true) : l.length ≤ 1100 ∧ -100000 ≤ x ∧ x ≤ 100000 := by
  unfold rightV at h
  by_cases e : l = []
  · rw [if_pos e] at h
    have := of_decide_eq_true h
    subst e; subst this; exact ⟨by simp, by omega, by omega⟩
  · rw [if_neg e] at h
    simp only [Bool.and_eq_true, decide_eq_true_eq] at h
    exact ⟨h.1, h.2.2.2.2.1, h.2.2.2.2.2⟩
theorem rightV_digs {l : List UInt8} {x : Int} (h : rightV l x = true) : l.all dgB = true := by
  unfold rightV at h
  by_cases e : l = []
  · subst e; rfl
  · rw [if_neg e] at h
    simp only [Bool.and_eq_true, decide_eq_true_eq] at h
    exact h.2.1
theorem getLast_B : ∀ {l : List UInt8}, l ≠ [] → l.getLast? = some 48 → B l (l.length - 1) = 48 := by
  intro l hl h
  have hp : 0 < l.length := List.length_pos_iff.2 hl
  rw [List.getLast?_eq_getElem?, List.getElem?_eq_getElem (by omega)] at h
  unfold B
  rw [List.getD_eq_getElem?_getD, List.getElem?_eq_getElem (by omega)]
  have h2 := Option.some.inj h
  show ((l[l.length - 1]).toNat : Int) = 48
  rw [h2]; rfl
theorem rightV_last {l : List UInt8} {x : Int} (h : rightV l x = true) : l.getLast? ≠ some 48 := by
  unfold rightV at h
  by_cases e : l = []
  · subst e; simp
  · rw [if_neg e] at h
    simp only [Bool.and_eq_true, decide_eq_true_eq] at h
    intro q
    exact h.2.2.2.1 (getLast_B e q)
theorem pointV_range (l : List UInt8) (x : Int) : -100000 ≤ pointV l x ∧ pointV l x ≤ 101100 := by
  unfold pointV
  by_cases h : rightV l x = true
  · rw [if_pos h]; have := rightV_len h; omega
  · rw [if_neg h]; omega
/-- The digit at a place, zeros behind. -/
def BP (l : List UInt8) (k : Nat) : Int := if k < l.length then B l k else 48
/-- The digit at a place, zeros at both sides. -/
def atV (l : List UInt8) (j : Int) : Int := if 0 ≤ j ∧ j < (l.length : Int) then B l j.toNat else 48
theorem atV_nat (l : List UInt8) (k : Nat) : atV l (k : Int) = BP l k := by
  unfold atV BP
  by_cases h : k < l.length
  · rw [if_pos h, if_pos (by omega)]; rfl
  · rw [if_neg h, if_neg (by omega)]
theorem BP_range (l : List UInt8) (k : Nat) : 0 ≤ BP l k ∧ BP l k < 256 := by
  unfold BP
  by_cases h : k < l.length
  · rw [if_pos h]; exact B_range l k
  · rw [if_neg h]; omega
theorem B_cons {l : List UInt8} {k : Nat} (h : k < l.length) : B l k = ((l[k]).toNat : Int) := by
  unfold B
  rw [List.getD_eq_getElem?_getD, List.getElem?_eq_getElem h]; rfl
theorem dgB_at {l : List UInt8} (hl : l.all dgB = true) {k : Nat} (h : k < l.length) : 48 ≤ B l k ∧ B l k ≤ 57 := by
  have := dgB_le ((List.all_eq_true.1 hl) _ (List.getElem_mem h))
  rw [B_cons h]; omega
theorem cmpP_step (a b : List UInt8) (ha : a.all dgB = true) (hb : b.all dgB = true) (k : Nat) (hk : k < a.length ∨ k < b.length) :
    cmpP (a.drop k) (b.drop k) = if BP a k < BP b k then -1 else if BP b k < BP a k then 1 else cmpP (a.drop (k+1)) (b.drop (k+1)) := by
  have lt (p q : UInt8) : (p < q) = ((p.toNat : Int) < (q.toNat : Int)) := propext ⟨fun h => by have := UInt8.lt_iff_toNat_lt.1 h; omega, fun h => UInt8.lt_iff_toNat_lt.2 (by omega)⟩
  have e48 : ((48 : UInt8).toNat : Int) = 48 := rfl
  unfold BP
  by_cases h1 : k < a.length
  · by_cases h2 : k < b.length
    · rw [List.drop_eq_getElem_cons h1, List.drop_eq_getElem_cons h2, if_pos h1, if_pos h2, B_cons h1, B_cons h2]
      conv => lhs; unfold cmpP
      simp only [lt]
    · have := dgB_at ha h1
      rw [List.drop_eq_getElem_cons h1, List.drop_eq_nil_of_le (show b.length ≤ k by omega), List.drop_eq_nil_of_le (show b.length ≤ k + 1 by omega), if_pos h1, if_neg h2]
      conv => lhs; unfold cmpP
      rw [if_neg (show ¬ B a k < 48 by omega), B_cons h1]
      simp only [lt, e48]
  · have h2 : k < b.length := by omega
    have := dgB_at hb h2
    rw [List.drop_eq_getElem_cons h2, List.drop_eq_nil_of_le (show a.length ≤ k by omega), List.drop_eq_nil_of_le (show a.length ≤ k + 1 by omega), if_neg h1, if_pos h2]
    conv => lhs; unfold cmpP
    rw [if_neg (show ¬ B b k < 48 by omega), B_cons h2]
    simp only [lt, e48]
theorem cmpP_end (a b : List UInt8) (k : Nat) (h1 : ¬ k < a.length) (h2 : ¬ k < b.length) : cmpP (a.drop k) (b.drop k) = 0 := by
  rw [List.drop_eq_nil_of_le (show a.length ≤ k by omega), List.drop_eq_nil_of_le (show b.length ≤ k by omega)]; unfold cmpP; rfl
/-- Of right ones, the digits' order is the order of strings. -/
theorem cmpB_right {l m : List UInt8} {x y : Int} (h : rightV l x = true) (g : rightV m y = true) : Lib.compareBytes l m = cmpP l m :=
  cmpP_eq l m (rightV_digs h) (rightV_digs g) (rightV_last h) (rightV_last g)
theorem compareBytes_range : ∀ a b : List UInt8, Lib.compareBytes a b = -1 ∨ Lib.compareBytes a b = 0 ∨ Lib.compareBytes a b = 1
  | [], [] => by simp [Lib.compareBytes]
  | [], b :: bs => by simp [Lib.compareBytes]
  | a :: l, [] => by simp [Lib.compareBytes]
  | a :: l, b :: m => by
    unfold Lib.compareBytes
    by_cases h : a < b
    · rw [if_pos h]; exact Or.inl rfl
    · rw [if_neg h]
      by_cases g : b < a
      · rw [if_pos g]; exact Or.inr (Or.inr rfl)
      · rw [if_neg g]; exact compareBytes_range l m
end Go.Proofs.YtgjhpcmpgkfnkaaDoor
