/-
  References as texts, read and written again.
-/
import Derived.Test.YtikcggbkkgipoaaDoorJ0
namespace Go.Proofs.YtikcggbkkgipoaaDoor
open Go.RowKit Go.Shelf

theorem u8_eq {x : UInt8} {n : Nat} (h : (x.toNat : Int) = n) : UInt8.ofNat n = x := by
  have : x.toNat = n := by omega
  rw [← this]; exact UInt8.ofNat_toNat
theorem dec_back (D : List UInt8) : ∀ (_ : D ≠ []) (_ : ∀ k, k < D.length → isDig (B D k) = true) (_ : B D 0 ≠ 48), Lib.decDigits (dvL D D.length).toNat = D ∧ 0 < dvL D D.length := by
  induction hn : D.length using Nat.strongRecOn generalizing D with
  | ind n ih =>
    intro h0 hd hz
    obtain ⟨D', x, rfl⟩ : ∃ D' x, D = D' ++ [x] := ⟨D.dropLast, D.getLast h0, (List.dropLast_concat_getLast h0).symm⟩
    have hlen : n = D'.length + 1 := by rw [← hn]; simp
    have hx := hd D'.length (by omega)
    rw [B_at] at hx
    have hx' : 48 ≤ (x.toNat : Int) ∧ (x.toNat : Int) ≤ 57 := of_decide_eq_true hx
    rw [hlen, dvL_snoc]
    by_cases he : D' = []
    · subst he
      have hz' : (x.toNat : Int) ≠ 48 := hz
      have e : dvL ([] : List UInt8) ([] : List UInt8).length = 0 := rfl
      rw [e]
      refine ⟨?_, by omega⟩
      rw [Lib.decDigits_one (by omega)]
      show [UInt8.ofNat _] = [x]
      rw [show 48 + (10 * 0 + ((x.toNat : Int) - 48)).toNat = x.toNat by omega, UInt8.ofNat_toNat]
    · have hp : 0 < D'.length := List.length_pos_iff.2 he
      obtain ⟨i1, i2⟩ := ih D'.length (by omega) D' rfl he (fun k hk => by have := hd k (by omega); rwa [B_app_left _ _ _ hk] at this) (by rwa [B_app_left _ _ _ hp] at hz)
      refine ⟨?_, by omega⟩
      rw [Lib.decDigits, dif_neg (by omega)]
      have e1 : (10 * dvL D' D'.length + ((x.toNat : Int) - 48)).toNat / 10 = (dvL D' D'.length).toNat := by omega
      have e2 : 48 + (10 * dvL D' D'.length + ((x.toNat : Int) - 48)).toNat % 10 = x.toNat := by omega
      rw [e1, e2, i1, UInt8.ofNat_toNat]
theorem dol_split (l : List UInt8) : l = dol (dolB l) ++ dolL l := by
  cases h : dolB l with
  | false => unfold dolL; rw [h]; rfl
  | true =>
    unfold dolL
    rw [h, if_pos rfl]
    obtain ⟨h1, h2⟩ := B_dol h
    cases l with
    | nil => exact absurd rfl h2
    | cons b l =>
      have hb : (b.toNat : Int) = 36 := h1
      show b :: l = [36] ++ l
      rw [show b = 36 from (u8_eq (n := 36) hb).symm]; rfl
theorem cap_dol (x : Bool) : (dol x).map capB = dol x := by cases x <;> decide
theorem capB_eq {b : UInt8} {z : Int} (h : (b.toNat : Int) = z) : capB b = UInt8.ofNat (capZ z).toNat := by unfold capB; rw [h]
theorem cap_dig (D : List UInt8) (h : ∀ k, k < D.length → isDig (B D k) = true) : D.map capB = D := by
  induction D with
  | nil => rfl
  | cons b D ih =>
    have hb : 48 ≤ (b.toNat : Int) ∧ (b.toNat : Int) ≤ 57 := of_decide_eq_true (h 0 (by simp))
    rw [List.map_cons, ih (fun k hk => h (k + 1) (by simp; omega))]
    rw [capB_eq rfl, show capZ (b.toNat : Int) = (b.toNat : Int) from if_neg (by omega), Int.toNat_natCast, UInt8.ofNat_toNat]
/-- A letter, capital. -/
theorem cap_let {b : UInt8} (h : isLet (b.toNat : Int) = true) : capB b = UInt8.ofNat (65 + lv (b.toNat : Int)).toNat := by
  have h' : (65 ≤ (b.toNat : Int) ∧ (b.toNat : Int) ≤ 90) ∨ (97 ≤ (b.toNat : Int) ∧ (b.toNat : Int) ≤ 122) := of_decide_eq_true h
  rw [capB_eq rfl]
  unfold capZ lv
  rcases h' with h' | h'
  · rw [if_neg (by omega), if_pos h']; congr 2; omega
  · rw [if_pos h', if_neg (by omega), if_pos h']; congr 2; omega
theorem col_back (P : List UInt8) (h : ∀ k, k < P.length → isLet (B P k) = true) (h1 : 1 ≤ P.length) (h3 : P.length ≤ 3) (hc : cvL P P.length - 1 < 64) : colN (cvL P P.length - 1) = P.map capB := by
  match P, h1, h3 with
  | [a], _, _ =>
    have ha : isLet (a.toNat : Int) = true := h 0 (by simp)
    have va := lv_let ha
    have e : cvL [a] [a].length - 1 = lv (a.toNat : Int) := by show 26 * 0 + lv (B [a] 0) + 1 - 1 = _; show 26 * 0 + lv (a.toNat : Int) + 1 - 1 = _; omega
    rw [e]; unfold colN
    rw [if_pos (by omega)]
    show [_] = [capB a]
    rw [cap_let ha]
  | [a, b], _, _ =>
    have ha : isLet (a.toNat : Int) = true := h 0 (by simp)
    have hb : isLet (b.toNat : Int) = true := h 1 (by simp)
    have va := lv_let ha
    have vb := lv_let hb
    have e : cvL [a, b] [a, b].length - 1 = 26 * (lv (a.toNat : Int) + 1) + lv (b.toNat : Int) := by
      show 26 * (26 * 0 + lv (a.toNat : Int) + 1) + lv (b.toNat : Int) + 1 - 1 = _; omega
    rw [e]; unfold colN
    rw [if_neg (by omega)]
    show [_, _] = [capB a, capB b]
    rw [cap_let ha, cap_let hb, show 64 + (26 * (lv (a.toNat : Int) + 1) + lv (b.toNat : Int)) / 26 = 65 + lv (a.toNat : Int) by omega, show 65 + (26 * (lv (a.toNat : Int) + 1) + lv (b.toNat : Int)) % 26 = 65 + lv (b.toNat : Int) by omega]
  | [a, b, d], _, _ =>
    have va := lv_let (h 0 (by simp))
    have vb := lv_let (h 1 (by simp))
    have vd := lv_let (h 2 (by simp))
    exfalso
    have e : cvL [a, b, d] [a, b, d].length = 26 * (26 * (26 * 0 + lv (B [a, b, d] 0) + 1) + lv (B [a, b, d] 1) + 1) + lv (B [a, b, d] 2) + 1 := rfl
    rw [e] at hc
    omega
theorem B_take (l : List UInt8) (n k : Nat) (h : k < n) : B (l.take n) k = B l k := by
  unfold B; rw [List.getD_eq_getElem?_getD, List.getD_eq_getElem?_getD, List.getElem?_take, if_pos h]
theorem cvL_take (l : List UInt8) (n : Nat) : ∀ k, k ≤ n → cvL (l.take n) k = cvL l k
  | 0, _ => rfl
  | k + 1, h => by unfold cvL; rw [cvL_take l n k (by omega), B_take l n k (by omega)]
/-- **What is read is written as it was, but in capital letters.** -/
theorem prt_par {l : List UInt8} {c r : Int} {x y : Bool} (h : parV l = ((Value.agg #[Value.int .i64 (c), Value.int .i64 (r), Value.bool x, Value.bool y]), 0)) : prtV c r x y = l.map capB := by
  unfold parV at h
  by_cases h3 : 3 < run isLet (dolL l)
  · rw [if_pos h3] at h; simp at h
  rw [if_neg h3] at h
  unfold parN at h
  by_cases hb : run isLet (dolL l) = 0 ∨ okD (behind (dolL l) (run isLet (dolL l))) = false
  · rw [if_pos hb] at h; simp at h
  rw [if_neg hb] at h
  by_cases hg : rgt (cvL (dolL l) (run isLet (dolL l)) - 1) (dvL (behind (dolL l) (run isLet (dolL l))) (behind (dolL l) (run isLet (dolL l))).length - 1) = true
  · rw [if_pos hg] at h
    have hn0 : run isLet (dolL l) ≠ 0 := fun e => hb (.inl e)
    have hok : okD (behind (dolL l) (run isLet (dolL l))) = true := by
      cases hk : okD (behind (dolL l) (run isLet (dolL l))) with
      | true => rfl
      | false => exact absurd (.inr hk) hb
    have hs1 := dol_split l
    have hs2 := dol_split ((dolL l).drop (run isLet (dolL l)))
    have hR := run_in isLet (dolL l)
    have hle := run_le isLet (dolL l)
    unfold behind at *
    simp at h
    obtain ⟨e1, e2, e3, e4⟩ := h
    obtain ⟨k1, k2, k3, k4⟩ := of_decide_eq_true hok
    generalize hm : dolL l = m at *
    generalize hr : run isLet m = n at *
    generalize hD : dolL (m.drop n) = D at *
    have hdig : ∀ k, k < D.length → isDig (B D k) = true := fun k hk => run_in isDig D k (by rw [k2]; exact hk)
    have hpl : (m.take n).length = n := by rw [List.length_take]; omega
    have hlet : ∀ k, k < (m.take n).length → isLet (B (m.take n) k) = true := fun k hk => by rw [hpl] at hk; rw [B_take _ _ _ hk]; exact hR k hk
    obtain ⟨q1, q2, q3, q4⟩ := rgt_iff.1 hg
    have hcb := col_back (m.take n) hlet (by omega) (by omega) (by rw [hpl, cvL_take m n n (Nat.le_refl _)]; exact q2)
    rw [hpl, cvL_take m n n (Nat.le_refl _)] at hcb
    obtain ⟨d1, d2⟩ := dec_back D k1 hdig k4
    rw [← e1, ← e2, ← e3, ← e4]
    unfold prtV
    rw [if_pos hg, hcb, show dvL D D.length - 1 + 1 = dvL D D.length by omega, d1]
    have hm2 : m = m.take n ++ m.drop n := (List.take_append_drop n m).symm
    rw [hs1]
    conv => rhs; rw [hm2, hs2]
    rw [List.map_append, List.map_append, List.map_append, cap_dol, cap_dol, cap_dig D hdig]
    have e5 : dolB (dol (dolB l) ++ m) = dolB l := by rw [← hs1]
    rw [e5]
    simp
  · rw [if_neg hg] at h; simp at h
end Go.Proofs.YtikcggbkkgipoaaDoor
