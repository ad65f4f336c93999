/-
  References as texts, there and back.
-/
import Derived.Test.YtikcggbkkgipoaaDoorJ4
namespace Go.Proofs.YtikcggbkkgipoaaDoor
open Go.RowKit Go.Shelf

theorem B_app_left (a b : List UInt8) (k : Nat) (h : k < a.length) : B (a ++ b) k = B a k := by
  unfold B; rw [List.getD_eq_getElem?_getD, List.getD_eq_getElem?_getD, List.getElem?_append_left h]
theorem runs_app {p : Int → Bool} : ∀ (a b : List UInt8), (∀ k, k < a.length → p (B a k) = true) → run p (a ++ b) = a.length + run p b
  | [], b, _ => by simp
  | x :: a, b, h => by
    have h0 : p (x.toNat : Int) = true := h 0 (by simp)
    have ih := runs_app a b (fun k hk => by have := h (k + 1) (by simp; omega); rwa [B_cons] at this)
    show (if p (x.toNat : Int) = true then run p (a ++ b) + 1 else 0) = _
    rw [if_pos h0, ih]; simp; omega
theorem run_stop {p : Int → Bool} {x : UInt8} {b : List UInt8} (h : p (x.toNat : Int) = false) : run p (x :: b) = 0 := by
  show (if p (x.toNat : Int) = true then run p b + 1 else 0) = 0
  rw [if_neg (by rw [h]; simp)]
theorem cvL_app (a b : List UInt8) : ∀ k, k ≤ a.length → cvL (a ++ b) k = cvL a k
  | 0, _ => rfl
  | k + 1, h => by unfold cvL; rw [cvL_app a b k (by omega), B_app_left a b k (by omega)]
theorem dvL_app (a b : List UInt8) : ∀ k, k ≤ a.length → dvL (a ++ b) k = dvL a k
  | 0, _ => rfl
  | k + 1, h => by unfold dvL; rw [dvL_app a b k (by omega), B_app_left a b k (by omega)]
theorem B_at (a : List UInt8) (x : UInt8) : B (a ++ [x]) a.length = (x.toNat : Int) := by
  unfold B; rw [List.getD_eq_getElem?_getD, List.getElem?_append_right (Nat.le_refl _), Nat.sub_self]; rfl
theorem dvL_snoc (a : List UInt8) (x : UInt8) : dvL (a ++ [x]) (a.length + 1) = 10 * dvL a a.length + ((x.toNat : Int) - 48) := by
  show 10 * dvL (a ++ [x]) a.length + (B (a ++ [x]) a.length - 48) = _
  rw [dvL_app a [x] a.length (Nat.le_refl _), B_at]
theorem u8_of {n : Nat} (h : n < 256) : ((UInt8.ofNat n).toNat : Int) = n := by rw [UInt8.toNat_ofNat', Nat.mod_eq_of_lt (by omega)]
/-- The decimal digits of a number: they are read as it, and the first is no zero. -/
theorem dec_facts (n : Nat) : 0 < (Lib.decDigits n).length ∧ (∀ k, k < (Lib.decDigits n).length → isDig (B (Lib.decDigits n) k) = true) ∧ dvL (Lib.decDigits n) (Lib.decDigits n).length = n ∧ (0 < n → B (Lib.decDigits n) 0 ≠ 48) := by
  induction n using Nat.strongRecOn with
  | ind n ih =>
    by_cases h : n < 10
    · rw [Lib.decDigits_one h]
      have hb : B [UInt8.ofNat (48 + n)] 0 = 48 + n := by show ((UInt8.ofNat (48 + n)).toNat : Int) = _; rw [u8_of (by omega)]; omega
      refine ⟨by simp, fun k hk => ?_, ?_, fun h0 => by rw [hb]; omega⟩
      · obtain rfl : k = 0 := by simp at hk; exact hk
        rw [hb]; exact decide_eq_true (by omega)
      · show 10 * 0 + (B [UInt8.ofNat (48 + n)] 0 - 48) = _
        rw [hb]; omega
    · obtain ⟨h1, h2, h3, h4⟩ := ih (n / 10) (by omega)
      have e : Lib.decDigits n = Lib.decDigits (n / 10) ++ [UInt8.ofNat (48 + n % 10)] := by rw [Lib.decDigits, dif_neg h]
      rw [e]
      have hx : ((UInt8.ofNat (48 + n % 10)).toNat : Int) = 48 + (n % 10 : Nat) := by rw [u8_of (by omega)]; omega
      refine ⟨by simp, fun k hk => ?_, ?_, fun h0 => ?_⟩
      · rw [List.length_append, List.length_singleton] at hk
        by_cases hk2 : k < (Lib.decDigits (n / 10)).length
        · rw [B_app_left _ _ _ hk2]; exact h2 k hk2
        · obtain rfl : k = (Lib.decDigits (n / 10)).length := by omega
          rw [B_at, hx]; exact decide_eq_true (by omega)
      · rw [List.length_append, List.length_singleton, dvL_snoc, h3, hx]; omega
      · rw [B_app_left _ _ _ h1]; exact h4 (by omega)
theorem colN_facts {c : Int} (h0 : 0 ≤ c) (h1 : c < 64) : (∀ k, k < (colN c).length → isLet (B (colN c) k) = true) ∧ 1 ≤ (colN c).length ∧ (colN c).length ≤ 2 ∧ cvL (colN c) (colN c).length = c + 1 := by
  have key : ∀ n : Nat, n < 64 → (∀ k, k < (colN (n : Int)).length → isLet (B (colN (n : Int)) k) = true) ∧ 1 ≤ (colN (n : Int)).length ∧ (colN (n : Int)).length ≤ 2 ∧ cvL (colN (n : Int)) (colN (n : Int)).length = (n : Int) + 1 := by decide +kernel
  have := key c.toNat (by omega)
  rw [show (c.toNat : Int) = c by omega] at this
  exact this
theorem dolB_cons (x : UInt8) (l : List UInt8) : dolB (x :: l) = decide ((x.toNat : Int) = 36) := by
  show (!false && decide (B (x :: l) 0 = 36)) = _
  simp [B]
theorem dolB_dol (x : Bool) (l : List UInt8) (h : dolB l = false) : dolB (dol x ++ l) = x ∧ dolL (dol x ++ l) = l := by
  cases x
  · have e : dolB (dol false ++ l) = false := h
    exact ⟨e, by unfold dolL; rw [e]; rfl⟩
  · have e : dolB (dol true ++ l) = true := by show dolB (36 :: l) = true; rw [dolB_cons]; decide
    exact ⟨e, by unfold dolL; rw [e]; rfl⟩
theorem no_dol {l : List UInt8} (h : B l 0 ≠ 36) : dolB l = false := by
  unfold dolB; rw [decide_eq_false h, Bool.and_false]
/-- **What is written of a reference is read as it.** -/
theorem par_prt {c r : Int} {x y : Bool} (g : rgt c r = true) : parV (prtV c r x y) = ((Value.agg #[Value.int .i64 (c), Value.int .i64 (r), Value.bool x, Value.bool y]), 0) := by
  obtain ⟨c0, c1, r0, r1⟩ := rgt_iff.1 g
  obtain ⟨L1, L2, L3, L4⟩ := colN_facts c0 c1
  obtain ⟨D1, D2, D3, D4⟩ := dec_facts (r + 1).toNat
  have D5 := decDigits_len (r + 1).toNat (by omega)
  unfold prtV
  rw [if_pos g]
  generalize hl : colN c = L at *
  generalize hd : Lib.decDigits (r + 1).toNat = D at *
  have Dd : isDig (B D 0) = true := D2 0 D1
  have dd : dolB D = false := no_dol (fun e => by rw [e] at Dd; exact absurd Dd (by decide))
  have e1 : dol x ++ L ++ dol y ++ D = dol x ++ (L ++ (dol y ++ D)) := by simp
  have Ll : isLet (B L 0) = true := L1 0 (by omega)
  have hb0 : B (L ++ (dol y ++ D)) 0 = B L 0 := B_app_left _ _ _ (by omega)
  have dl : dolB (L ++ (dol y ++ D)) = false := no_dol (fun e => by rw [hb0] at e; rw [e] at Ll; exact absurd Ll (by decide))
  obtain ⟨x1, x2⟩ := dolB_dol x _ dl
  obtain ⟨y1, y2⟩ := dolB_dol y D dd
  have r2 : run isLet (dol y ++ D) = 0 := by
    cases y
    · cases D with
      | nil => simp at D1
      | cons b D =>
        refine run_stop ?_
        have : isDig ((b.toNat : Int)) = true := Dd
        have h := of_decide_eq_true this
        exact decide_eq_false (by omega)
    · exact run_stop (by decide)
  have rl : run isLet (L ++ (dol y ++ D)) = L.length := by rw [runs_app L _ L1, r2]; rfl
  rw [e1]
  unfold parV
  rw [x1, x2, rl, if_neg (by omega)]
  unfold parN behind
  rw [List.drop_left, y1, y2]
  have rd : run isDig D = D.length := by
    have := runs_app (p := isDig) D [] D2
    rw [List.append_nil] at this; rw [this]; rfl
  have ok : okD D = true := decide_eq_true ⟨fun e => by rw [e] at D1; simp at D1, rd, by omega, D4 (by omega)⟩
  rw [if_neg (fun h => h.elim (fun e => by omega) (fun e => by rw [ok] at e; cases e)), cvL_app L _ _ (Nat.le_refl _), L4, D3]
  rw [show c + 1 - 1 = c by omega, show (((r + 1).toNat : Nat) : Int) - 1 = r by omega, if_pos g]
end Go.Proofs.YtikcggbkkgipoaaDoor
