/-
  An area's cells: which they are; their numbers rise.
-/
import Derived.Test.YtikcggbkkgipoaaDoorJ5
namespace Go.Proofs.YtikcggbkkgipoaaDoor
open Go.RowKit Go.Shelf

theorem mem_upto {lo z : Int} {k : Nat} : z ∈ upto lo k ↔ lo ≤ z ∧ z < lo + (k : Int) := by
  unfold upto
  rw [List.mem_map]
  constructor
  · rintro ⟨i, hi, rfl⟩
    have := List.mem_range.1 hi; omega
  · rintro ⟨h1, h2⟩
    exact ⟨(z - lo).toNat, List.mem_range.2 (by omega), by omega⟩
theorem mem_grid {C p q : Int} {n : Nat} {xs : List Int} : (p, q) ∈ gridL C n xs ↔ q ∈ xs ∧ p ∈ upto C n := by
  unfold gridL rowL
  rw [List.mem_flatMap]
  constructor
  · rintro ⟨x, hx, h⟩
    obtain ⟨y, hy, e⟩ := List.mem_map.1 h
    cases e
    exact ⟨hx, hy⟩
  · rintro ⟨h1, h2⟩
    exact ⟨q, h1, List.mem_map.2 ⟨p, h2, rfl⟩⟩
theorem ins_mem (c r d s p q : Int) : insV p q c r d s = decide ((p, q) ∈ cellsL c r d s) := by
  unfold insV cellsL
  by_cases h : (rgt c r && rgt d s) = true
  · rw [if_pos h]
    rw [Bool.and_eq_true] at h
    obtain ⟨c0, c1, r0, r1⟩ := rgt_iff.1 h.1
    obtain ⟨d0, d1, s0, s1⟩ := rgt_iff.1 h.2
    rw [h.1, h.2]
    have e : ((p, q) ∈ gridL (min c d) (span (min c d) (max c d)) (upto (min r s) (span (min r s) (max r s)))) ↔ (min r s ≤ q ∧ q ≤ max r s) ∧ (min c d ≤ p ∧ p ≤ max c d) := by
      rw [mem_grid, mem_upto, mem_upto]
      unfold span
      omega
    by_cases g : (min r s ≤ q ∧ q ≤ max r s) ∧ (min c d ≤ p ∧ p ≤ max c d)
    · rw [decide_eq_true (e.2 g), rgt_t (by omega), decide_eq_true g.1.1, decide_eq_true g.1.2, decide_eq_true g.2.1, decide_eq_true g.2.2]; rfl
    · rw [decide_eq_false (fun h => g (e.1 h))]
      by_cases g1 : min c d ≤ p
      · by_cases g2 : p ≤ max c d
        · by_cases g3 : min r s ≤ q
          · rw [decide_eq_false (show ¬ q ≤ max r s from fun g4 => g ⟨⟨g3, g4⟩, g1, g2⟩)]; simp
          · rw [decide_eq_false g3]; simp
        · rw [decide_eq_false g2]; simp
      · rw [decide_eq_false g1]; simp
  · rw [if_neg h]
    have h' : rgt c r = false ∨ rgt d s = false := by
      cases h1 : rgt c r <;> cases h2 : rgt d s <;> simp_all
    rcases h' with h' | h' <;> rw [h'] <;> simp
def num (a : Int × Int) : Int := 64 * a.2 + a.1
theorem upto_rise (lo : Int) (k : Nat) : (upto lo k).Pairwise (· < ·) := by
  unfold upto
  rw [List.pairwise_map]
  exact List.pairwise_lt_range.imp (fun h => by omega)
theorem cells_rise (c r d s : Int) : (cellsL c r d s).Pairwise (fun a b => num a < num b) := by
  unfold cellsL
  by_cases h : (rgt c r && rgt d s) = true
  · rw [if_pos h]
    rw [Bool.and_eq_true] at h
    obtain ⟨c0, c1, r0, r1⟩ := rgt_iff.1 h.1
    obtain ⟨d0, d1, s0, s1⟩ := rgt_iff.1 h.2
    unfold gridL rowL
    rw [List.pairwise_flatMap]
    refine ⟨fun x _ => ?_, ?_⟩
    · rw [List.pairwise_map]
      exact (upto_rise _ _).imp (fun h => by unfold num; simp only; omega)
    · refine (upto_rise _ _).imp (fun {x1 x2} hx => ?_)
      intro a ha b hb
      obtain ⟨y1, h1, rfl⟩ := List.mem_map.1 ha
      obtain ⟨y2, h2, rfl⟩ := List.mem_map.1 hb
      have m1 := mem_upto.1 h1
      have m2 := mem_upto.1 h2
      unfold span at m1 m2
      unfold num
      simp only
      omega
  · rw [if_neg h]; exact List.Pairwise.nil
theorem cells_right {c r d s : Int} {a : Int × Int} (h : a ∈ cellsL c r d s) : rgt a.1 a.2 = true ∧ insV a.1 a.2 c r d s = true := by
  have e := ins_mem c r d s a.1 a.2
  rw [decide_eq_true (show (a.1, a.2) ∈ cellsL c r d s from h)] at e
  refine ⟨?_, e⟩
  unfold insV at e
  cases hh : rgt a.1 a.2 with
  | true => rfl
  | false => rw [hh] at e; simp at e
theorem idx_rise {c r d s : Int} {j : Nat} {a b : Int × Int} (ha : (cellsL c r d s)[j]? = some a) (hb : (cellsL c r d s)[j + 1]? = some b) : ¬ idx b.1 b.2 ≤ idx a.1 a.2 := by
  obtain ⟨h1, e1⟩ := List.getElem?_eq_some_iff.1 ha
  obtain ⟨h2, e2⟩ := List.getElem?_eq_some_iff.1 hb
  have hp := List.pairwise_iff_getElem.1 (cells_rise c r d s) j (j + 1) h1 h2 (by omega)
  rw [e1, e2] at hp
  have ra := (cells_right (List.mem_of_getElem? ha)).1
  have rb := (cells_right (List.mem_of_getElem? hb)).1
  unfold idx
  rw [if_pos ra, if_pos rb]
  unfold num at hp
  omega
theorem area_sym (c r d s : Int) : areaV d s c r = areaV c r d s := by
  unfold areaV
  rw [Bool.and_comm, Int.max_comm d c, Int.min_comm d c, Int.max_comm s r, Int.min_comm s r]
theorem ins_sym (p q c r d s : Int) : insV p q d s c r = insV p q c r d s := by
  unfold insV
  rw [Int.max_comm d c, Int.min_comm d c, Int.max_comm s r, Int.min_comm s r]
  cases rgt p q <;> cases rgt c r <;> cases rgt d s <;> rfl
theorem take_mem {l : List (Int × Int)} {k : Nat} {a : Int × Int} (h : l[k]? = some a) (z : Int × Int) : decide (z ∈ l.take (k + 1)) = (decide (z ∈ l.take k) || decide (a = z)) := by
  obtain ⟨h1, e1⟩ := List.getElem?_eq_some_iff.1 h
  rw [List.take_succ_eq_append_getElem h1, e1]
  by_cases m : z ∈ l.take k
  · rw [decide_eq_true m, decide_eq_true (List.mem_append.2 (.inl m))]; rfl
  · rw [decide_eq_false m, Bool.false_or]
    by_cases e : a = z
    · rw [decide_eq_true e, decide_eq_true (List.mem_append.2 (.inr (by rw [e]; simp)))]
    · rw [decide_eq_false e, decide_eq_false (fun hh => (List.mem_append.1 hh).elim m (fun g => e (by simp at g; exact g.symm)))]
end Go.Proofs.YtikcggbkkgipoaaDoor
