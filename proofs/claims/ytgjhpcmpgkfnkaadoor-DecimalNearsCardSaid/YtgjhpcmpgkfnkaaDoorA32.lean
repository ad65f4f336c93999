/-
  What the document reads of a text is what the program reads.
-/
import Derived.Test.YtgjhpcmpgkfnkaaDoorA31
namespace Go.Proofs.YtgjhpcmpgkfnkaaDoor
open Go.RowKit Go.Shelf

/-- No digits, no decimal. -/
theorem dry34 : ∀ (l : List UInt8) (st : Int) (ng : Bool) (pl : Int) (ne : Bool) (ex ec : Int), st = 3 ∨ st = 4 → autV ⟨st, ng, [], pl, ne, ex, ec⟩ l = bad
  | [], st, ng, pl, ne, ex, ec, _ => by
    show endV ⟨st, ng, [], pl, ne, ex, ec⟩ = bad
    exact if_pos (Or.inl rfl)
  | b :: l, st, ng, pl, ne, ex, ec, hs => by
    by_cases hb : 48 ≤ (b.toNat : Int) ∧ (b.toNat : Int) ≤ 57
    · by_cases h9 : ec + 1 ≤ 9
      · have ht : takeS ⟨st, ng, [], pl, ne, ex, ec⟩ (b.toNat : Int) = some ⟨4, ng, [], pl, ne, ex * 10 + ((b.toNat : Int) - 48), ec + 1⟩ := by
          unfold takeS digS
          rw [if_pos hb, if_neg (show ¬ st = 0 by omega), if_neg (show ¬ st = 2 by omega), if_pos hs, if_pos h9]
        rw [autV_some l ht]; exact dry34 l 4 ng pl ne _ _ (Or.inr rfl)
      · have ht : takeS ⟨st, ng, [], pl, ne, ex, ec⟩ (b.toNat : Int) = none := by
          unfold takeS digS
          rw [if_pos hb, if_neg (show ¬ st = 0 by omega), if_neg (show ¬ st = 2 by omega), if_pos hs, if_neg h9]
        exact autV_none l ht
    · by_cases h1 : ((b.toNat : Int) = 43 ∨ (b.toNat : Int) = 45) ∧ st = 3
      · have ht : takeS ⟨st, ng, [], pl, ne, ex, ec⟩ (b.toNat : Int) = some ⟨4, ng, [], pl, decide ((b.toNat : Int) = 45), ex, ec⟩ := by
          unfold takeS
          rw [if_neg hb, if_neg (fun e => by have h3 : st = 0 := e.2; omega), if_neg (fun e => by have h3 : st ≤ 1 := e.2; omega), if_neg (fun e => by have h3 : st ≤ 2 := e.2; omega), if_pos h1]
        rw [autV_some l ht]; exact dry34 l 4 ng pl _ _ _ (Or.inr rfl)
      · have ht : takeS ⟨st, ng, [], pl, ne, ex, ec⟩ (b.toNat : Int) = none := by
          unfold takeS
          rw [if_neg hb, if_neg (fun e => by have h3 : st = 0 := e.2; omega), if_neg (fun e => by have h3 : st ≤ 1 := e.2; omega), if_neg (fun e => by have h3 : st ≤ 2 := e.2; omega), if_neg h1]
        exact autV_none l ht
theorem dry12 (ng : Bool) (pl st : Int) (hs : st = 1 ∨ st = 2) : ∀ r : List UInt8, run isDg r = 0 → (st = 1 → ¬ (r ≠ [] ∧ B r 0 = 46)) → autV ⟨st, ng, [], pl, false, 0, 0⟩ r = bad
  | [], _, _ => by
    show endV ⟨st, ng, [], pl, false, 0, 0⟩ = bad
    exact if_pos (Or.inl rfl)
  | b :: l, hr, h46 => by
    have hb := run_zero hr
    have eB : B (b :: l) 0 = (b.toNat : Int) := rfl
    rw [eB] at h46
    by_cases h1 : (b.toNat : Int) = 101 ∨ (b.toNat : Int) = 69
    · have ht : takeS ⟨st, ng, [], pl, false, 0, 0⟩ (b.toNat : Int) = some ⟨3, ng, [], pl, false, 0, 0⟩ := by
        unfold takeS
        rw [if_neg hb, if_neg (fun e => by omega), if_neg (fun e => by omega), if_pos ⟨h1, show st ≤ 2 by omega⟩]
      rw [autV_some l ht]; exact dry34 l 3 ng pl false 0 0 (Or.inl rfl)
    · have ht : takeS ⟨st, ng, [], pl, false, 0, 0⟩ (b.toNat : Int) = none := by
        unfold takeS
        rw [if_neg hb, if_neg (fun e => by have h3 : st = 0 := e.2; omega), if_neg (fun e => by
          rcases hs with h | h
          · exact h46 h ⟨by simp, e.1⟩
          · have h3 : st ≤ 1 := e.2; omega), if_neg (fun e => h1 e.1), if_neg (fun e => by have h3 : st = 3 := e.2; omega)]
      exact autV_none l ht
/-- Where no sign stands, the start is as behind one. -/
theorem start_eq : ∀ l : List UInt8, ¬ (l ≠ [] ∧ B l 0 = 45) → autV st0 l = autV ⟨1, false, [], 0, false, 0, 0⟩ l
  | [], _ => rfl
  | b :: l, h => by
    have h45 : ¬ (b.toNat : Int) = 45 := fun e => h ⟨by simp, e⟩
    have e : takeS st0 (b.toNat : Int) = takeS ⟨1, false, [], 0, false, 0, 0⟩ (b.toNat : Int) := by
      by_cases hb : 48 ≤ (b.toNat : Int) ∧ (b.toNat : Int) ≤ 57
      · exact (if_pos hb).trans (if_pos hb : takeS ⟨1, false, [], 0, false, 0, 0⟩ (b.toNat : Int) = _).symm
      · by_cases h1 : (b.toNat : Int) = 46
        · rw [h1]; rfl
        · by_cases h2 : (b.toNat : Int) = 101 ∨ (b.toNat : Int) = 69
          · rcases h2 with h2 | h2 <;> (rw [h2]; rfl)
          · have z : ∀ σ : NSt, σ.st ≠ 3 → takeS σ (b.toNat : Int) = none := fun σ h3 => by
              unfold takeS
              rw [if_neg hb, if_neg (fun e => h45 e.1), if_neg (fun e => h1 e.1), if_neg (fun e => h2 e.1), if_neg (fun e => h3 e.2)]
            rw [z st0 (by decide), z _ (by decide)]
    rw [autV_cons, autV_cons, e]
def docM (ng : Bool) (l : List UInt8) : Value × Int :=
  if l.drop (run isDg l) ≠ [] ∧ B (l.drop (run isDg l)) 0 = 46 then
    (if l.take (run isDg l) ++ ((l.drop (run isDg l)).drop 1).take (run isDg ((l.drop (run isDg l)).drop 1)) = [] then bad
     else docE ng (l.take (run isDg l) ++ ((l.drop (run isDg l)).drop 1).take (run isDg ((l.drop (run isDg l)).drop 1))) (run isDg ((l.drop (run isDg l)).drop 1)) (((l.drop (run isDg l)).drop 1).drop (run isDg ((l.drop (run isDg l)).drop 1))))
  else (if l.take (run isDg l) = [] then bad else docE ng (l.take (run isDg l)) 0 (l.drop (run isDg l)))
def docV (l : List UInt8) : Value × Int := if l ≠ [] ∧ B l 0 = 45 then docM true (l.drop 1) else docM false l
theorem run_rest : ∀ l : List UInt8, run isDg (l.drop (run isDg l)) = 0
  | [] => rfl
  | b :: l => by
    by_cases hb : 48 ≤ (b.toNat : Int) ∧ (b.toNat : Int) ≤ 57
    · have hr : run isDg (b :: l) = run isDg l + 1 := by
        show (if isDg (b.toNat : Int) = true then run isDg l + 1 else 0) = _; rw [if_pos (isDg_t hb)]
      rw [hr, List.drop_succ_cons]; exact run_rest l
    · have hr : run isDg (b :: l) = 0 := by
        show (if isDg (b.toNat : Int) = true then run isDg l + 1 else 0) = _; rw [if_neg (by rw [isDg_f hb]; simp)]
      rw [hr]; exact hr
theorem docM_eq (ng : Bool) (l : List UInt8) : autV ⟨1, ng, [], 0, false, 0, 0⟩ l = docM ng l := by
  rw [aut1, List.nil_append]
  have hr := run_rest l
  unfold docM
  obtain ⟨d, hd⟩ : ∃ d, l.take (run isDg l) = d := ⟨_, rfl⟩
  obtain ⟨m, hm⟩ : ∃ m, l.drop (run isDg l) = m := ⟨_, rfl⟩
  rw [hd, hm]; rw [hm] at hr
  by_cases h : m ≠ [] ∧ B m 0 = 46
  · refine Eq.symm ((if_pos h).trans ?_)
    cases m with
    | nil => exact absurd rfl h.1
    | cons b r =>
      have e46 : (b.toNat : Int) = 46 := h.2
      have ed : (b :: r).drop 1 = r := rfl
      rw [ed]
      have ht : takeS ⟨1, ng, d, 0, false, 0, 0⟩ (b.toNat : Int) = some ⟨2, ng, d, 0, false, 0, 0⟩ := by rw [e46]; rfl
      rw [autV_some r ht, aut2]
      have hr2 := run_rest r
      by_cases h0 : d ++ r.take (run isDg r) = []
      · rw [if_pos h0, h0]
        exact (dry12 ng _ 2 (Or.inr rfl) _ hr2 (fun e => absurd e (by decide))).symm
      · rw [if_neg h0]
        have := docE_eq ng _ (0 + (run isDg r : Int)) 2 h0 (Or.inr rfl) _ hr2 (fun e => absurd e (by decide))
        rw [this, Int.zero_add]
  · refine Eq.symm ((if_neg h).trans ?_)
    by_cases h0 : d = []
    · rw [if_pos h0, h0]
      exact (dry12 ng 0 1 (Or.inl rfl) m hr (fun _ => h)).symm
    · rw [if_neg h0]
      exact (docE_eq ng d 0 1 h0 (Or.inl rfl) m hr (fun _ => h)).symm
/-- The program reads what the document reads. -/
theorem parV_doc (l : List UInt8) : parV l = docV l := by
  rw [parV_aut]
  unfold docV
  by_cases h : l ≠ [] ∧ B l 0 = 45
  · rw [if_pos h]
    cases l with
    | nil => exact absurd rfl h.1
    | cons b r =>
      have e45 : (b.toNat : Int) = 45 := h.2
      have ht : takeS st0 (b.toNat : Int) = some ⟨1, true, [], 0, false, 0, 0⟩ := by rw [e45]; rfl
      rw [autV_some r ht]; exact docM_eq true r
  · rw [if_neg h, start_eq l h, docM_eq]
end Go.Proofs.YtgjhpcmpgkfnkaaDoor
