/-
  What the document reads of a text: the exponent.
-/
import Derived.Test.YtgjhpcmpgkfnkaaDoorA30
namespace Go.Proofs.YtgjhpcmpgkfnkaaDoor
open Go.RowKit Go.Shelf

theorem run_zero {b : UInt8} {l : List UInt8} (h : run isDg (b :: l) = 0) : ¬ (48 ≤ (b.toNat : Int) ∧ (b.toNat : Int) ≤ 57) := by
  intro hb
  have hr : run isDg (b :: l) = run isDg l + 1 := by
    show (if isDg (b.toNat : Int) = true then run isDg l + 1 else 0) = _; rw [if_pos (isDg_t hb)]
  omega
theorem aut4z (ng : Bool) (ds : List UInt8) (pl : Int) (ne : Bool) (l : List UInt8) (hd : ds ≠ []) :
    autV ⟨4, ng, ds, pl, ne, 0, 0⟩ l = if run isDg l = l.length ∧ 0 < l.length ∧ l.length ≤ 9 then makeV ng ds ((if ne = true then -(numF 0 l) else numF 0 l) - pl) else bad := by
  rw [aut4 ng ds pl ne l 0 0 (by omega) hd]
  by_cases h : run isDg l = l.length ∧ 0 < l.length ∧ l.length ≤ 9
  · exact (if_pos ⟨h.1, by omega, by omega⟩).trans (if_pos h).symm
  · refine ((if_neg (fun q => h ⟨q.1, by omega, by omega⟩)).trans ?_).trans (if_neg h).symm
    exact if_neg (fun q => by omega)
/-- Behind the e. -/
theorem aut3 (ng : Bool) (ds : List UInt8) (pl : Int) (hd : ds ≠ []) : ∀ l : List UInt8,
    autV ⟨3, ng, ds, pl, false, 0, 0⟩ l = if l ≠ [] ∧ B l 0 = 43 then autV ⟨4, ng, ds, pl, false, 0, 0⟩ (l.drop 1) else if l ≠ [] ∧ B l 0 = 45 then autV ⟨4, ng, ds, pl, true, 0, 0⟩ (l.drop 1) else autV ⟨4, ng, ds, pl, false, 0, 0⟩ l
  | [] => by
    rw [if_neg (fun q => q.1 rfl), if_neg (fun q => q.1 rfl), aut4z ng ds pl false [] hd, if_neg (fun q => by have := q.2.1; simp at this)]
    exact if_pos (Or.inr ⟨by show (3 : Int) ≤ 3; decide, rfl⟩)
  | b :: l => by
    have eB : B (b :: l) 0 = (b.toNat : Int) := rfl
    rw [eB]
    by_cases h1 : (b.toNat : Int) = 43
    · rw [if_pos ⟨by simp, h1⟩]
      have ht : takeS ⟨3, ng, ds, pl, false, 0, 0⟩ (b.toNat : Int) = some ⟨4, ng, ds, pl, false, 0, 0⟩ := by rw [h1]; rfl
      exact autV_some l ht
    · rw [if_neg (fun q => h1 q.2)]
      by_cases h2 : (b.toNat : Int) = 45
      · rw [if_pos ⟨by simp, h2⟩]
        have ht : takeS ⟨3, ng, ds, pl, false, 0, 0⟩ (b.toNat : Int) = some ⟨4, ng, ds, pl, true, 0, 0⟩ := by rw [h2]; rfl
        exact autV_some l ht
      · rw [if_neg (fun q => h2 q.2)]
        by_cases hb : 48 ≤ (b.toNat : Int) ∧ (b.toNat : Int) ≤ 57
        · have ht : ∀ st : Int, st = 3 ∨ st = 4 → takeS ⟨st, ng, ds, pl, false, 0, 0⟩ (b.toNat : Int) = some ⟨4, ng, ds, pl, false, 0 * 10 + ((b.toNat : Int) - 48), 0 + 1⟩ := fun st hs => by
            unfold takeS digS
            rw [if_pos hb, if_neg (show ¬ st = 0 by omega), if_neg (show ¬ st = 2 by omega), if_pos hs, if_pos (show (0 : Int) + 1 ≤ 9 by decide)]
          rw [autV_some l (ht 3 (Or.inl rfl)), autV_some l (ht 4 (Or.inr rfl))]
        · have hn3 : takeS ⟨3, ng, ds, pl, false, 0, 0⟩ (b.toNat : Int) = none := by
            unfold takeS
            rw [if_neg hb, if_neg (fun e => h2 e.1), if_neg (fun e => absurd e.2 (show ¬ (3 : Int) ≤ 1 by decide)), if_neg (fun e => absurd e.2 (show ¬ (3 : Int) ≤ 2 by decide)), if_neg (fun e => e.1.elim h1 h2)]
          have hn4 : takeS ⟨4, ng, ds, pl, false, 0, 0⟩ (b.toNat : Int) = none := by
            unfold takeS
            rw [if_neg hb, if_neg (fun e => h2 e.1), if_neg (fun e => absurd e.2 (show ¬ (4 : Int) ≤ 1 by decide)), if_neg (fun e => absurd e.2 (show ¬ (4 : Int) ≤ 2 by decide)), if_neg (fun e => absurd e.2 (show ¬ (4 : Int) = 3 by decide))]
          rw [autV_none l hn3, autV_none l hn4]
/-- What the document reads behind the digits. -/
def tenV (ng : Bool) (ds : List UInt8) (b sg : Int) (q : List UInt8) : Value × Int :=
  if min 9 (run isDg q) = 0 then bad else if min 9 (run isDg q) < q.length then bad else makeV ng ds (-b + sg * numF 0 (q.take (min 9 (run isDg q))))
def docE (ng : Bool) (ds : List UInt8) (b : Int) (r : List UInt8) : Value × Int :=
  if r ≠ [] ∧ (B r 0 = 101 ∨ B r 0 = 69) then
    (if r.drop 1 ≠ [] ∧ B (r.drop 1) 0 = 43 then tenV ng ds b 1 ((r.drop 1).drop 1) else if r.drop 1 ≠ [] ∧ B (r.drop 1) 0 = 45 then tenV ng ds b (-1) ((r.drop 1).drop 1) else tenV ng ds b 1 (r.drop 1))
  else if r ≠ [] then bad else makeV ng ds (-b)
theorem ten_eq (ng : Bool) (ds : List UInt8) (pl : Int) (ne : Bool) (l : List UInt8) (hd : ds ≠ []) : autV ⟨4, ng, ds, pl, ne, 0, 0⟩ l = tenV ng ds pl (if ne = true then -1 else 1) l := by
  have hl := run_le isDg l
  rw [aut4z ng ds pl ne l hd]
  unfold tenV
  by_cases h : run isDg l = l.length ∧ 0 < l.length ∧ l.length ≤ 9
  · have hm : min 9 (run isDg l) = l.length := by omega
    rw [hm]
    refine (if_pos h).trans ?_
    refine Eq.symm ((if_neg (by omega)).trans ((if_neg (by omega)).trans ?_))
    rw [List.take_length]
    congr 1
    cases ne
    · simp; omega
    · simp; omega
  · refine (if_neg h).trans ?_
    by_cases h0 : min 9 (run isDg l) = 0
    · exact (if_pos h0).symm
    · exact ((if_neg h0).trans (if_pos (by omega))).symm
theorem docE_eq (ng : Bool) (ds : List UInt8) (pl st : Int) (hd : ds ≠ []) (hs : st = 1 ∨ st = 2) : ∀ r : List UInt8, run isDg r = 0 → (st = 1 → ¬ (r ≠ [] ∧ B r 0 = 46)) →
    autV ⟨st, ng, ds, pl, false, 0, 0⟩ r = docE ng ds pl r
  | [], _, _ => by
    unfold docE
    rw [if_neg (fun q => q.1 rfl), if_neg (fun q => q rfl)]
    have e : endV ⟨st, ng, ds, pl, false, 0, 0⟩ = makeV ng ds ((if false = true then -(0 : Int) else 0) - pl) := if_neg (fun e => e.elim hd (fun q => by have h3 : 3 ≤ st := q.1; omega))
    show endV ⟨st, ng, ds, pl, false, 0, 0⟩ = _
    rw [e]; congr 1; simp
  | b :: l, hr, h46 => by
    have hb := run_zero hr
    have eB : B (b :: l) 0 = (b.toNat : Int) := rfl
    unfold docE
    rw [eB] at h46 ⊢
    have ed : (b :: l).drop 1 = l := rfl
    rw [ed]
    by_cases h1 : (b.toNat : Int) = 101 ∨ (b.toNat : Int) = 69
    · have ht : takeS ⟨st, ng, ds, pl, false, 0, 0⟩ (b.toNat : Int) = some ⟨3, ng, ds, pl, false, 0, 0⟩ := by
        unfold takeS
        rw [if_neg hb, if_neg (fun e => by omega), if_neg (fun e => by omega), if_pos ⟨h1, show st ≤ 2 by omega⟩]
      rw [autV_some l ht, aut3 ng ds pl hd l]
      refine Eq.symm ((if_pos ⟨by simp, h1⟩).trans ?_)
      rw [ten_eq ng ds pl false _ hd, ten_eq ng ds pl true _ hd, ten_eq ng ds pl false _ hd]
      rfl
    · have ht : takeS ⟨st, ng, ds, pl, false, 0, 0⟩ (b.toNat : Int) = none := by
        unfold takeS
        rw [if_neg hb, if_neg (fun e => by have h3 : st = 0 := e.2; omega), if_neg (fun e => by
          rcases hs with h | h
          · exact h46 h ⟨by simp, e.1⟩
          · have h3 : st ≤ 1 := e.2; omega), if_neg (fun e => h1 e.1), if_neg (fun e => by have h3 : st = 3 := e.2; omega)]
      rw [autV_none l ht]
      exact Eq.symm ((if_neg (fun q => h1 q.2)).trans (if_pos (by simp)))
end Go.Proofs.YtgjhpcmpgkfnkaaDoor
