/-
  What is read of a text as a reference.
-/
import Derived.Test.YtikcggbkkgipoaaDoorD1
import Derived.Test.YtikcggbkkgipoaaDoorA3
namespace Go.Proofs.YtikcggbkkgipoaaDoor
open Go.RowKit Go.Shelf

/-- How many bytes at the head are of a kind. -/
def run (p : Int → Bool) : List UInt8 → Nat
  | [] => 0
  | b :: l => if p (b.toNat : Int) = true then run p l + 1 else 0
theorem run_le (p : Int → Bool) : ∀ l, run p l ≤ l.length
  | [] => Nat.le_refl _
  | b :: l => by unfold run; have := run_le p l; split <;> simp <;> omega
theorem B_cons (b : UInt8) (l : List UInt8) (k : Nat) : B (b :: l) (k + 1) = B l k := rfl
theorem run_in (p : Int → Bool) : ∀ (l : List UInt8) (k : Nat), k < run p l → p (B l k) = true
  | [], k, h => by simp [run] at h
  | b :: l, k, h => by
    unfold run at h
    by_cases hp : p (b.toNat : Int) = true
    · rw [if_pos hp] at h
      cases k with
      | zero => exact hp
      | succ k => rw [B_cons]; exact run_in p l k (by omega)
    · rw [if_neg hp] at h; omega
theorem run_at (p : Int → Bool) : ∀ (l : List UInt8), run p l < l.length → p (B l (run p l)) = false
  | [], h => by simp at h
  | b :: l, h => by
    unfold run at h ⊢
    by_cases hp : p (b.toNat : Int) = true
    · rw [if_pos hp] at h ⊢
      rw [B_cons]; exact run_at p l (by simp at h; omega)
    · rw [if_neg hp]; simpa [B] using hp
/-- The byte at k, where k bytes of the kind stand ahead: one more, or the run ends. -/
theorem run_more {p : Int → Bool} {l : List UInt8} {k : Nat} (hk : k ≤ run p l) (h : k < l.length) (hp : p (B l k) = true) : k + 1 ≤ run p l := by
  rcases Nat.lt_or_ge k (run p l) with h1 | h1
  · exact h1
  · have e : k = run p l := by omega
    subst e
    rw [run_at p l h] at hp; cases hp
theorem run_ends {p : Int → Bool} {l : List UInt8} {k : Nat} (hk : k ≤ run p l) (hp : p (B l k) = false) : k = run p l := by
  rcases Nat.lt_or_ge k (run p l) with h1 | h1
  · rw [run_in p l k h1] at hp; cases hp
  · omega
/-- The number of k letters, of k digits. -/
def cvL (l : List UInt8) : Nat → Int
  | 0 => 0
  | k + 1 => 26 * cvL l k + lv (B l k) + 1
def dvL (l : List UInt8) : Nat → Int
  | 0 => 0
  | k + 1 => 10 * dvL l k + (B l k - 48)
theorem cvL_range {l : List UInt8} : ∀ k, k ≤ run isLet l → 0 ≤ cvL l k
  | 0, _ => Int.le_refl _
  | k + 1, h => by
    have := cvL_range (l := l) k (by omega)
    have := lv_let (run_in isLet l k (by omega))
    unfold cvL; omega
theorem dvL_range {l : List UInt8} : ∀ k, k ≤ run isDig l → 0 ≤ dvL l k
  | 0, _ => Int.le_refl _
  | k + 1, h => by
    have := dvL_range (l := l) k (by omega)
    have h2 := run_in isDig l k (by omega)
    unfold isDig at h2
    have := of_decide_eq_true h2
    unfold dvL; omega
def pow26 : Nat → Int
  | 0 => 1
  | k + 1 => 26 * pow26 k
def pow10 : Nat → Int
  | 0 => 1
  | k + 1 => 10 * pow10 k
theorem cvL_lt {l : List UInt8} : ∀ k, k ≤ run isLet l → cvL l k + 2 ≤ 2 * pow26 k
  | 0, _ => by simp [cvL, pow26]
  | k + 1, h => by
    have := cvL_lt (l := l) k (by omega)
    have := lv_let (run_in isLet l k (by omega))
    unfold cvL pow26; omega
theorem dvL_lt {l : List UInt8} : ∀ k, k ≤ run isDig l → dvL l k < pow10 k
  | 0, _ => by simp [dvL, pow10]
  | k + 1, h => by
    have := dvL_lt (l := l) k (by omega)
    have h2 := run_in isDig l k (by omega)
    unfold isDig at h2
    have := of_decide_eq_true h2
    unfold dvL pow10; omega
/-- The digits behind: some, no more than seven, nothing else, no leading zero. -/
def okD (l : List UInt8) : Bool := decide (l ≠ [] ∧ run isDig l = l.length ∧ l.length ≤ 7 ∧ B l 0 ≠ 48)
/-- What stands behind n letters. -/
def behind (l : List UInt8) (n : Nat) : List UInt8 := dolL (l.drop n)
/-- Of n letters, at most three, and what stands behind: the reference, or why there is none. -/
def parN (x : Bool) (l : List UInt8) (n : Nat) : Value × Int :=
  if n = 0 ∨ okD (behind l n) = false then ((Value.agg #[Value.int .i64 (0), Value.int .i64 (0), Value.bool false, Value.bool false]), 3)
  else if rgt (cvL l n - 1) (dvL (behind l n) (behind l n).length - 1) = true then ((Value.agg #[Value.int .i64 (cvL l n - 1), Value.int .i64 (dvL (behind l n) (behind l n).length - 1), Value.bool x, Value.bool (dolB (l.drop n))]), 0)
  else ((Value.agg #[Value.int .i64 (0), Value.int .i64 (0), Value.bool false, Value.bool false]), 14)
/-- What is read of a text: its reference, and 0; or none, and why not. -/
def parV (l : List UInt8) : Value × Int :=
  if 3 < run isLet (dolL l) then ((Value.agg #[Value.int .i64 (0), Value.int .i64 (0), Value.bool false, Value.bool false]), 3) else parN (dolB l) (dolL l) (run isLet (dolL l))
theorem B_dol {l : List UInt8} (h : dolB l = true) : B l 0 = 36 ∧ l ≠ [] := by
  unfold dolB at h
  rw [Bool.and_eq_true] at h
  exact ⟨of_decide_eq_true h.2, fun e => by rw [e] at h; simp at h⟩
/-- The program's way: it looks at no more than three letters. -/
theorem parV_min (l : List UInt8) : parV l = parN (dolB l) (dolL l) (min 3 (run isLet (dolL l))) := by
  unfold parV
  generalize dolL l = m
  by_cases h : 3 < run isLet m
  · rw [if_pos h, Nat.min_eq_left (by omega)]
    have h3 := run_in isLet m 3 h
    have hl := run_le isLet m
    have e : B (m.drop 3) 0 = B m 3 := B_drop m 3 0
    have hd : dolB (m.drop 3) = false := by
      cases hh : dolB (m.drop 3) with
      | false => rfl
      | true => have := (B_dol hh).1; rw [e] at this; rw [this] at h3; exact absurd h3 (by decide)
    have hb : behind m 3 = m.drop 3 := by unfold behind dolL; rw [hd]; rfl
    have hok : okD (behind m 3) = false := by
      rw [hb]; unfold okD
      refine decide_eq_false fun hh => ?_
      obtain ⟨h1, h2, _⟩ := hh
      have hpos : 0 < run isDig (m.drop 3) := by rw [h2]; exact List.length_pos_iff.2 h1
      have hdg := run_in isDig _ 0 hpos
      rw [e] at hdg
      unfold isDig at hdg; unfold isLet at h3
      have := of_decide_eq_true hdg
      have := of_decide_eq_true h3
      omega
    unfold parN
    rw [if_pos (.inr hok)]
  · rw [if_neg h, Nat.min_eq_right (by omega)]
theorem Bx.setx {W : World} {B : Nat} {c r : Int} {x y : Bool} (h : Bx W B c r x y) (x' : Bool) : Bx (W.setCell ⟨B, 2, none⟩ (.bool x')) B c r x' y :=
  ⟨⟨by rw [World.cell?_setCell_other _ _ _ _ (by simp)]; exact h.b.c, by rw [World.cell?_setCell_other _ _ _ _ (by simp)]; exact h.b.r, World.cell?_setCell_same _ _ _ h.b.x, by rw [World.cell?_setCell_other _ _ _ _ (by simp)]; exact h.b.y⟩, fun j => by rw [World.frozen?_setCell]; exact h.f j⟩
theorem Bx.sety {W : World} {B : Nat} {c r : Int} {x y : Bool} (h : Bx W B c r x y) (y' : Bool) : Bx (W.setCell ⟨B, 3, none⟩ (.bool y')) B c r x y' :=
  ⟨⟨by rw [World.cell?_setCell_other _ _ _ _ (by simp)]; exact h.b.c, by rw [World.cell?_setCell_other _ _ _ _ (by simp)]; exact h.b.r, by rw [World.cell?_setCell_other _ _ _ _ (by simp)]; exact h.b.x, World.cell?_setCell_same _ _ _ h.b.y⟩, fun j => by rw [World.frozen?_setCell]; exact h.f j⟩
theorem boxes2z (w : World) : ∃ W W4, (w.alloc (.cells #[.int .i64 0, .int .i64 0, .bool false, .bool false] 23)).alloc (.cells #[.int .i64 0, .int .i64 0, .bool false, .bool false] 23) = W ∧
    (((W.setCell ⟨w.heap.size + 1, 0, none⟩ (.int .i64 0)).setCell ⟨w.heap.size + 1, 1, none⟩ (.int .i64 0)).setCell ⟨w.heap.size + 1, 2, none⟩ (.bool false)).setCell ⟨w.heap.size + 1, 3, none⟩ (.bool false) = W4 ∧
    Bx W (w.heap.size + 1) 0 0 false false ∧ Bx W4 w.heap.size 0 0 false false ∧ Bx W4 (w.heap.size + 1) 0 0 false false ∧ Below w.heap.size w W4 ∧ w.heap.size + 1 < W4.heap.size := by
  obtain ⟨W, hW, p0, p1, hb, sz⟩ := boxes2 w 0 0 false false
  refine ⟨W, _, hW, rfl, p1, ?_, (((p1.setc 0).setr 0).setx false).sety false, (((hb.setCell (Nat.le_succ _) _).setCell (Nat.le_succ _) _).setCell (Nat.le_succ _) _).setCell (Nat.le_succ _) _, by simp [World.setCell]; exact sz⟩
  exact (((p0.other (by omega)).other (by omega)).other (by omega)).other (by omega)
def ParsePost (l : List UInt8) (w : World) (e : Ending) (w' : World) : Prop := e = .returned (.tuple #[(parV l).1, .int .i64 (parV l).2]) ∧ Below w.heap.size w w'
end Go.Proofs.YtikcggbkkgipoaaDoor
