/-
  What the document reads of a text, plainly, and that the program's reader reads the same.
-/
import Derived.Test.YtgjhpcmpgkfnkaaDoorA20
namespace Go.Proofs.YtgjhpcmpgkfnkaaDoor
open Go.RowKit Go.Shelf

def isDg (v : Int) : Bool := decide (48 ≤ v ∧ v ≤ 57)
theorem isDg_t {v : Int} (h : 48 ≤ v ∧ v ≤ 57) : isDg v = true := decide_eq_true h
theorem isDg_f {v : Int} (h : ¬ (48 ≤ v ∧ v ≤ 57)) : isDg v = false := decide_eq_false h
def bad : Value × Int := (decV false [] 0, 3)
/-- What comes of a state and the rest of the text. -/
def autV (σ : NSt) (l : List UInt8) : Value × Int := match runS σ l with | none => bad | some σ' => endV σ'
theorem parV_aut (l : List UInt8) : parV l = autV st0 l := rfl
theorem autV_cons (σ : NSt) (b : UInt8) (l : List UInt8) : autV σ (b :: l) = match takeS σ (b.toNat : Int) with | none => bad | some σ' => autV σ' l := by
  show (match (match takeS σ (b.toNat : Int) with | none => none | some σ' => runS σ' l) with | none => bad | some σ' => endV σ') = _
  cases takeS σ (b.toNat : Int) <;> rfl
theorem autV_none {σ : NSt} {b : UInt8} (l : List UInt8) (h : takeS σ (b.toNat : Int) = none) : autV σ (b :: l) = bad := by rw [autV_cons, h]
theorem autV_some {σ σ' : NSt} {b : UInt8} (l : List UInt8) (h : takeS σ (b.toNat : Int) = some σ') : autV σ (b :: l) = autV σ' l := by rw [autV_cons, h]
/-- The number of the first k digits, behind a number. -/
def numF (z : Int) : List UInt8 → Int
  | [] => z
  | b :: l => numF (z * 10 + ((b.toNat : Int) - 48)) l
theorem ofNat_toNat (b : UInt8) : UInt8.ofNat ((b.toNat : Int)).toNat = b := by simp
/-- The digits of an exponent. -/
theorem aut4 (ng : Bool) (ds : List UInt8) (pl : Int) (ne : Bool) : ∀ (l : List UInt8) (ex ec : Int), 0 ≤ ec → ds ≠ [] →
    autV ⟨4, ng, ds, pl, ne, ex, ec⟩ l = if run isDg l = l.length ∧ 0 < ec + l.length ∧ ec + l.length ≤ 9 then makeV ng ds ((if ne = true then -(numF ex l) else numF ex l) - pl)
      else if run isDg l = l.length ∧ l = [] ∧ 9 < ec then makeV ng ds ((if ne = true then -(numF ex l) else numF ex l) - pl) else bad
  | [], ex, ec, h0, hd => by
    have c1 : (run isDg ([] : List UInt8) = ([] : List UInt8).length ∧ 0 < ec + (([] : List UInt8).length : Int) ∧ ec + (([] : List UInt8).length : Int) ≤ 9) ↔ (0 < ec ∧ ec ≤ 9) := by
      constructor
      · intro h; have h1 := h.2.1; have h2 := h.2.2; simp at h1 h2; exact ⟨h1, h2⟩
      · intro h; exact ⟨rfl, by simpa using h.1, by simpa using h.2⟩
    have c2 : (run isDg ([] : List UInt8) = ([] : List UInt8).length ∧ ([] : List UInt8) = [] ∧ 9 < ec) ↔ 9 < ec := ⟨fun h => h.2.2, fun h => ⟨rfl, rfl, h⟩⟩
    show endV ⟨4, ng, ds, pl, ne, ex, ec⟩ = _
    by_cases h : ec = 0
    · have e : endV ⟨4, ng, ds, pl, ne, ex, ec⟩ = bad := if_pos (Or.inr ⟨by show (3 : Int) ≤ 4; decide, h⟩)
      rw [e, if_neg (fun q => by have := c1.1 q; omega), if_neg (fun q => by have := c2.1 q; omega)]
    · have e : endV ⟨4, ng, ds, pl, ne, ex, ec⟩ = makeV ng ds ((if ne = true then -ex else ex) - pl) := if_neg (fun e => e.elim hd (fun q => h q.2))
      rw [e]
      by_cases h9 : ec ≤ 9
      · exact (if_pos (c1.2 ⟨by omega, h9⟩)).symm
      · exact ((if_neg (fun q => by have := c1.1 q; omega)).trans (if_pos (c2.2 (by omega)))).symm
  | b :: l, ex, ec, h0, hd => by
    by_cases hb : 48 ≤ (b.toNat : Int) ∧ (b.toNat : Int) ≤ 57
    · have hr : run isDg (b :: l) = run isDg l + 1 := by
        show (if isDg (b.toNat : Int) = true then run isDg l + 1 else 0) = _; rw [if_pos (isDg_t hb)]
      by_cases h9 : ec + 1 ≤ 9
      · have ht : takeS ⟨4, ng, ds, pl, ne, ex, ec⟩ (b.toNat : Int) = some ⟨4, ng, ds, pl, ne, ex * 10 + ((b.toNat : Int) - 48), ec + 1⟩ := by
          unfold takeS digS; rw [if_pos hb, if_neg (show ¬ (4 : Int) = 0 by decide), if_neg (show ¬ (4 : Int) = 2 by decide), if_pos (Or.inr rfl), if_pos h9]
        rw [autV_some l ht, aut4 ng ds pl ne l _ _ (by omega) hd, hr]
        have hi : (run isDg l = l.length ∧ 0 < ec + 1 + (l.length : Int) ∧ ec + 1 + (l.length : Int) ≤ 9) ↔ (run isDg l + 1 = (b :: l).length ∧ 0 < ec + ((b :: l).length : Int) ∧ ec + ((b :: l).length : Int) ≤ 9) := by
          have el : ((b :: l).length : Int) = l.length + 1 := by simp
          have el2 : (b :: l).length = l.length + 1 := by simp
          rw [el, el2]
          constructor
          · intro h; exact ⟨by omega, by omega, by omega⟩
          · intro h; exact ⟨by omega, by omega, by omega⟩
        by_cases hc : run isDg l + 1 = (b :: l).length ∧ 0 < ec + ((b :: l).length : Int) ∧ ec + ((b :: l).length : Int) ≤ 9
        · exact (if_pos (hi.2 hc)).trans (if_pos hc).symm
        · refine ((if_neg (fun q => hc (hi.1 q))).trans ?_).trans (if_neg hc).symm
          exact (if_neg (fun e => by omega)).trans (if_neg (fun e => by have := e.2.1; simp at this)).symm
      · have ht : takeS ⟨4, ng, ds, pl, ne, ex, ec⟩ (b.toNat : Int) = none := by
          unfold takeS digS; rw [if_pos hb, if_neg (show ¬ (4 : Int) = 0 by decide), if_neg (show ¬ (4 : Int) = 2 by decide), if_pos (Or.inr rfl), if_neg h9]
        rw [autV_none l ht, if_neg (fun e => by have := e.2.2; simp at this; omega), if_neg (fun e => by simp at e)]
    · have hr : run isDg (b :: l) = 0 := by
        show (if isDg (b.toNat : Int) = true then run isDg l + 1 else 0) = _; rw [if_neg (by rw [isDg_f hb]; simp)]
      have ht : takeS ⟨4, ng, ds, pl, ne, ex, ec⟩ (b.toNat : Int) = none := by
        unfold takeS
        rw [if_neg hb, if_neg (fun e => absurd e.2 (show ¬ (4 : Int) = 0 by decide)), if_neg (fun e => absurd e.2 (show ¬ (4 : Int) ≤ 1 by decide)), if_neg (fun e => absurd e.2 (show ¬ (4 : Int) ≤ 2 by decide)), if_neg (fun e => absurd e.2 (show ¬ (4 : Int) = 3 by decide))]
      rw [autV_none l ht, hr, if_neg (fun e => by have := e.1; simp at this), if_neg (fun e => by have := e.1; simp at this)]
/-- The digits behind the point. -/
theorem aut2 (ng : Bool) : ∀ (l : List UInt8) (ds : List UInt8) (pl : Int),
    autV ⟨2, ng, ds, pl, false, 0, 0⟩ l = autV ⟨2, ng, ds ++ l.take (run isDg l), pl + run isDg l, false, 0, 0⟩ (l.drop (run isDg l))
  | [], ds, pl => by simp [run]
  | b :: l, ds, pl => by
    by_cases hb : 48 ≤ (b.toNat : Int) ∧ (b.toNat : Int) ≤ 57
    · have hr : run isDg (b :: l) = run isDg l + 1 := by
        show (if isDg (b.toNat : Int) = true then run isDg l + 1 else 0) = _; rw [if_pos (isDg_t hb)]
      have ht : takeS ⟨2, ng, ds, pl, false, 0, 0⟩ (b.toNat : Int) = some ⟨2, ng, ds ++ [b], pl + 1, false, 0, 0⟩ := by
        unfold takeS digS; rw [if_pos hb, if_neg (show ¬ (2 : Int) = 0 by decide), if_pos rfl, ofNat_toNat]
      rw [autV_some l ht, aut2 ng l, hr, List.take_succ_cons, List.drop_succ_cons]
      congr 2
      · simp
      · simp; omega
    · have hr : run isDg (b :: l) = 0 := by
        show (if isDg (b.toNat : Int) = true then run isDg l + 1 else 0) = _; rw [if_neg (by rw [isDg_f hb]; simp)]
      rw [hr]; simp
/-- The digits ahead of it. -/
theorem aut1 (ng : Bool) : ∀ (l : List UInt8) (ds : List UInt8),
    autV ⟨1, ng, ds, 0, false, 0, 0⟩ l = autV ⟨1, ng, ds ++ l.take (run isDg l), 0, false, 0, 0⟩ (l.drop (run isDg l))
  | [], ds => by simp [run]
  | b :: l, ds => by
    by_cases hb : 48 ≤ (b.toNat : Int) ∧ (b.toNat : Int) ≤ 57
    · have hr : run isDg (b :: l) = run isDg l + 1 := by
        show (if isDg (b.toNat : Int) = true then run isDg l + 1 else 0) = _; rw [if_pos (isDg_t hb)]
      have ht : takeS ⟨1, ng, ds, 0, false, 0, 0⟩ (b.toNat : Int) = some ⟨1, ng, ds ++ [b], 0, false, 0, 0⟩ := by
        unfold takeS digS; rw [if_pos hb, if_neg (show ¬ (1 : Int) = 0 by decide), if_neg (show ¬ (1 : Int) = 2 by decide), if_neg (show ¬ ((1 : Int) = 3 ∨ (1 : Int) = 4) by decide), ofNat_toNat]
      rw [autV_some l ht, aut1 ng l, hr, List.take_succ_cons, List.drop_succ_cons]
      congr 2
      simp
    · have hr : run isDg (b :: l) = 0 := by
        show (if isDg (b.toNat : Int) = true then run isDg l + 1 else 0) = _; rw [if_neg (by rw [isDg_f hb]; simp)]
      rw [hr]; simp
end Go.Proofs.YtgjhpcmpgkfnkaaDoor
