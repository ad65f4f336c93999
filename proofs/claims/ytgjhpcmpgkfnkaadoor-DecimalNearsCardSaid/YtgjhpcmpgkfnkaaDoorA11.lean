/-
  Decimals: what is made of digits.
-/
import Derived.Test.YtgjhpcmpgkfnkaaDoorA10
namespace Go.Proofs.YtgjhpcmpgkfnkaaDoor
open Go.RowKit Go.Shelf

/-- How many bytes at the head are of a kind. -/
def run (p : Int → Bool) : List UInt8 → Nat
  | [] => 0
  | b :: l => if p (b.toNat : Int) = true then run p l + 1 else 0
theorem run_le (p : Int → Bool) : ∀ l, run p l ≤ l.length
  | [] => Nat.le_refl _
  | b :: l => by unfold run; have := run_le p l; split <;> simp <;> omega
theorem Bc (b : UInt8) (l : List UInt8) (k : Nat) : B (b :: l) (k + 1) = B l k := rfl
theorem run_in (p : Int → Bool) : ∀ (l : List UInt8) (k : Nat), k < run p l → p (B l k) = true
  | [], k, h => by simp [run] at h
  | b :: l, k, h => by
    unfold run at h
    by_cases hp : p (b.toNat : Int) = true
    · rw [if_pos hp] at h
      cases k with
      | zero => exact hp
      | succ k => rw [Bc]; exact run_in p l k (by omega)
    · rw [if_neg hp] at h; omega
theorem run_at (p : Int → Bool) : ∀ (l : List UInt8), run p l < l.length → p (B l (run p l)) = false
  | [], h => by simp at h
  | b :: l, h => by
    unfold run at h ⊢
    by_cases hp : p (b.toNat : Int) = true
    · rw [if_pos hp] at h ⊢
      rw [Bc]; exact run_at p l (by simp at h; omega)
    · rw [if_neg hp]; simpa [B] using hp
/-- The byte at k, where k bytes of the kind stand ahead: one more, or the run ends. -/
theorem run_more {p : Int → Bool} {l : List UInt8} {k : Nat} (hk : k ≤ run p l) (h : k < l.length) (hp : p (B l k) = true) : k + 1 ≤ run p l := by
  rcases Nat.lt_or_ge k (run p l) with h1 | h1
  · exact h1
  · have e : k = run p l := by omega
    subst e
    rw [run_at p l h] at hp; cases hp
theorem run_ends {p : Int → Bool} {l : List UInt8} {k : Nat} (hk : k ≤ run p l) (hp : p (B l k) = false) : k = run p l := by
  rcases Nat.lt_or_ge k (run p l) with h1 | h1
  · rw [run_in p l k h1] at hp; cases hp
  · omega
def isZ (v : Int) : Bool := decide (v = 48)
theorem isZ_t {v : Int} (h : v = 48) : isZ v = true := decide_eq_true h
theorem isZ_f {v : Int} (h : ¬ v = 48) : isZ v = false := decide_eq_false h
theorem byte48 {b : UInt8} (h : (b.toNat : Int) = 48) : b = 48 := by
  have h2 : b.toNat = (48 : UInt8).toNat := by show b.toNat = 48; omega
  exact UInt8.toNat_inj.1 h2
theorem trimL_run : ∀ l : List UInt8, Lib.trimLeftB l 48 = l.drop (run isZ l)
  | [] => rfl
  | b :: l => by
    unfold Lib.trimLeftB run
    by_cases h : (b.toNat : Int) = 48
    · rw [if_pos (isZ_t h), List.dropWhile_cons_of_pos (by rw [byte48 h]; rfl)]
      exact trimL_run l
    · rw [if_neg (by rw [isZ_f h]; simp), List.dropWhile_cons_of_neg (by
        rw [beq_iff_eq]; intro e; subst e; exact h rfl)]; rfl
/-- The digits without zeros at either end; how many were taken at the right one. -/
def mkD (l : List UInt8) : List UInt8 := Lib.trimRightB (Lib.trimLeftB l 48) 48
def mkM (l : List UInt8) : Int := ((Lib.trimLeftB l 48).length : Int) - ((mkD l).length : Int)
theorem trimR_le (m : List UInt8) (c : UInt8) : (Lib.trimRightB m c).length ≤ m.length := by
  unfold Lib.trimRightB
  rw [List.length_reverse]
  have h := (List.dropWhile_suffix (· == c) (l := m.reverse)).length_le
  rw [List.length_reverse] at h; exact h
theorem mkD_le (l : List UInt8) : (mkD l).length ≤ (Lib.trimLeftB l 48).length := trimR_le _ _
theorem trimL_le (l : List UInt8) : (Lib.trimLeftB l 48).length ≤ l.length := by rw [trimL_run, List.length_drop]; omega
theorem B_drop (l : List UInt8) (o k : Nat) : B (l.drop o) k = B l (o + k) := by
  unfold B; rw [List.getD_eq_getElem?_getD, List.getD_eq_getElem?_getD, List.getElem?_drop]
theorem B_some {l : List UInt8} {k : Nat} {b : UInt8} (h : l[k]? = some b) : B l k = (b.toNat : Int) := by
  unfold B; rw [List.getD_eq_getElem?_getD, h]; rfl
/-- Where the walk from the right stands still. -/
theorem mkD_at {l : List UInt8} {f T : Nat} (hf : f = run isZ l) (h0 : f ≤ T) (h3 : T ≤ l.length) (h1 : ∀ j : Nat, T ≤ j → j < l.length → B l j = 48) (h2 : f < T → B l (T - 1) ≠ 48) :
    mkD l = (l.drop f).take (T - f) ∧ mkM l = (l.length : Int) - T := by
  have e : mkD l = (l.drop f).take (T - f) := by
    unfold mkD
    rw [trimL_run, ← hf]
    refine Lib.trimRightB_take _ _ _ (by rw [List.length_drop]; omega) (fun j b hj hb => ?_) (fun b hk hb => ?_)
    · have hb2 := B_some hb
      rw [B_drop] at hb2
      have hlen : j < (l.drop f).length := by
        rcases Nat.lt_or_ge j (l.drop f).length with h | h
        · exact h
        · rw [List.getElem?_eq_none h] at hb; cases hb
      rw [List.length_drop] at hlen
      rw [h1 (f + j) (by omega) (by omega)] at hb2
      exact byte48 hb2.symm
    · have hb2 := B_some hb
      rw [B_drop] at hb2
      intro e; subst e
      refine h2 (by omega) ?_
      rw [show T - 1 = f + (T - f - 1) by omega, hb2]; rfl
  refine ⟨e, ?_⟩
  unfold mkM
  rw [e, trimL_run, ← hf, List.length_take, List.length_drop]
  omega
def decV (b : Bool) (l : List UInt8) (x : Int) : Value := .agg #[.bool b, .string ⟨l.toArray⟩, .int .i64 x]
/-- What is made of digits. -/
def makeV (b : Bool) (l : List UInt8) (x : Int) : Value × Int :=
  if l.all dgB = true then
    if mkD l = [] then (decV b [] 0, 0)
    else if (mkD l).length ≤ 1100 ∧ x ≤ 100000 ∧ -100000 ≤ x + mkM l ∧ x + mkM l ≤ 100000 then (decV b (mkD l) (x + mkM l), 0)
    else (decV false [] 0, 2)
  else (decV false [] 0, 3)
def MakePost (r : Value × Int) (w : World) (e : Ending) (w' : World) : Prop := e = .returned (.tuple #[r.1, .int .i64 r.2]) ∧ Below w.heap.size w w'
end Go.Proofs.YtgjhpcmpgkfnkaaDoor
