/-
  Decimals as lists of digits: plain facts.
-/
import Derived.Lib.Bytealg
import Derived.Lib.TrimByte
namespace Go.Proofs.YtgjhpcmpgkfnkaaDoor

/-- A digit. -/
def dgB (b : UInt8) : Bool := decide (48 ≤ b.toNat ∧ b.toNat ≤ 57)
/-- The order of digits, zeros behind the shorter ones. -/
def cmpP : List UInt8 → List UInt8 → Int
  | [], [] => 0
  | [], b :: bs => if (48 : UInt8) < b then -1 else cmpP [] bs
  | a :: as, [] => if (48 : UInt8) < a then 1 else cmpP as []
  | a :: as, b :: bs => if a < b then -1 else if b < a then 1 else cmpP as bs
theorem dgB_le {b : UInt8} (h : dgB b = true) : 48 ≤ b.toNat ∧ b.toNat ≤ 57 := of_decide_eq_true h
theorem dgB_gt {b : UInt8} (h : dgB b = true) (n : b ≠ 48) : (48 : UInt8) < b := by
  have h1 := (dgB_le h).1
  have h2 : b.toNat ≠ 48 := fun e => n (UInt8.toNat_inj.1 e)
  exact UInt8.lt_iff_toNat_lt.2 (by show 48 < b.toNat; omega)
theorem cmpP_nil : ∀ l : List UInt8, l ≠ [] → l.all dgB = true → l.getLast? ≠ some 48 → cmpP [] l = -1
  | [], h, _, _ => absurd rfl h
  | b :: bs, _, ha, hl => by
    rw [List.all_cons, Bool.and_eq_true] at ha
    unfold cmpP
    by_cases hb : b = 48
    · subst hb
      rw [if_neg (by decide)]
      refine cmpP_nil bs ?_ ha.2 ?_
      · intro e; subst e; exact hl rfl
      · intro e
        cases bs with
        | nil => simp at e
        | cons c cs => exact hl (by rw [List.getLast?_cons_cons]; exact e)
    · rw [if_pos (dgB_gt ha.1 hb)]
theorem cmpP_nil' : ∀ l : List UInt8, l ≠ [] → l.all dgB = true → l.getLast? ≠ some 48 → cmpP l [] = 1
  | [], h, _, _ => absurd rfl h
  | b :: bs, _, ha, hl => by
    rw [List.all_cons, Bool.and_eq_true] at ha
    unfold cmpP
    by_cases hb : b = 48
    · subst hb
      rw [if_neg (by decide)]
      refine cmpP_nil' bs ?_ ha.2 ?_
      · intro e; subst e; exact hl rfl
      · intro e
        cases bs with
        | nil => simp at e
        | cons c cs => exact hl (by rw [List.getLast?_cons_cons]; exact e)
    · rw [if_pos (dgB_gt ha.1 hb)]
theorem last_tail {b : UInt8} {bs : List UInt8} (h : (b :: bs).getLast? ≠ some 48) : bs.getLast? ≠ some 48 := by
  intro e
  cases bs with
  | nil => simp at e
  | cons c cs => exact h (by rw [List.getLast?_cons_cons]; exact e)
/-- Digits without zeros at their ends are in the order of strings. -/
theorem cmpP_eq : ∀ a b : List UInt8, a.all dgB = true → b.all dgB = true → a.getLast? ≠ some 48 → b.getLast? ≠ some 48 → Lib.compareBytes a b = cmpP a b
  | [], [], _, _, _, _ => by simp [Lib.compareBytes, cmpP]
  | [], b :: bs, _, hb, _, lb => by rw [cmpP_nil _ (by simp) hb lb]; simp [Lib.compareBytes]
  | a :: as, [], ha, _, la, _ => by rw [cmpP_nil' _ (by simp) ha la]; simp [Lib.compareBytes]
  | a :: as, b :: bs, ha, hb, la, lb => by
    rw [List.all_cons, Bool.and_eq_true] at ha hb
    unfold Lib.compareBytes cmpP
    rw [cmpP_eq as bs ha.2 hb.2 (last_tail la) (last_tail lb)]
end Go.Proofs.YtgjhpcmpgkfnkaaDoor
