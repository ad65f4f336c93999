/-
  The number of a row of digits: its bounds.
-/
import Derived.Test.YtgjhpcmpgkfnkaaDoorA32
namespace Go.Proofs.YtgjhpcmpgkfnkaaDoor
open Go.RowKit Go.Shelf

theorem numF_app : ∀ (l : List UInt8) (z : Int) (b : UInt8), numF z (l ++ [b]) = numF z l * 10 + ((b.toNat : Int) - 48)
  | [], _, _ => rfl
  | a :: l, z, b => numF_app l (z * 10 + ((a.toNat : Int) - 48)) b
theorem numF_take {l : List UInt8} {k : Nat} (h : k < l.length) (z : Int) : numF z (l.take (k + 1)) = numF z (l.take k) * 10 + (B l k - 48) := by
  rw [List.take_succ_eq_append_getElem h, numF_app, B_cons h]
theorem numF_lt (l : List UInt8) : ∀ k : Nat, k ≤ run isDg l → 0 ≤ numF 0 (l.take k) ∧ numF 0 (l.take k) < ((10 ^ k : Nat) : Int)
  | 0, _ => by simp [numF]
  | k + 1, h => by
    have hk : k < l.length := Nat.lt_of_lt_of_le h (run_le _ _)
    have d : 48 ≤ B l k ∧ B l k ≤ 57 := of_decide_eq_true (run_in isDg l k h)
    have ih := numF_lt l k (Nat.le_of_succ_le h)
    rw [numF_take hk, Nat.pow_succ]
    obtain ⟨P, hP⟩ : ∃ P, 10 ^ k = P := ⟨_, rfl⟩
    rw [hP] at ih ⊢
    omega
theorem numF_9 (l : List UInt8) (k : Nat) (h : k ≤ run isDg l) (h9 : k ≤ 9) : 0 ≤ numF 0 (l.take k) ∧ numF 0 (l.take k) < 1000000000 := by
  have h1 := numF_lt l k h
  have h2 : 10 ^ k ≤ 10 ^ 9 := Nat.pow_le_pow_right (by decide) h9
  omega
end Go.Proofs.YtgjhpcmpgkfnkaaDoor
