/-
  Decimals as numbers: rounding.
-/
import Derived.Test.YtgjhpcmpgkfnkaaDoorA42
namespace Go.Proofs.YtgjhpcmpgkfnkaaDoor
open Go.RowKit Go.Shelf

/-- Rounded up: by the way, an odd last digit, what is taken away against half a unit. -/
def rUp (b : Bool) (way : Int) (odd : Bool) (c : Int) : Bool :=
  if way = 3 then true else if way = 4 then b else if way = 5 then !b else if way = 2 then false
  else decide (0 < c) || (decide (c = 0) && (decide (way = 1) || odd))
/-- A number rounded to a multiple of a unit. -/
def rN (U : Nat) (b : Bool) (way : Int) (v : Nat) : Nat :=
  if v % U = 0 then v else (v / U + if rUp b way (decide (v / U % 2 = 1)) (cmpN (2 * (v % U)) U) = true then 1 else 0) * U
theorem div_mul (U v : Nat) : v / U * U + v % U = v := by rw [Nat.mul_comm]; exact Nat.div_add_mod v U
theorem rN_lo (U : Nat) (b : Bool) (way : Int) (v : Nat) : v / U * U ≤ rN U b way v := by
  unfold rN
  by_cases h : v % U = 0
  · rw [if_pos h]; have := div_mul U v; omega
  · rw [if_neg h]; exact Nat.mul_le_mul_right _ (Nat.le_add_right _ _)
theorem rN_hi (U : Nat) (b : Bool) (way : Int) (v : Nat) : rN U b way v ≤ (v / U + 1) * U := by
  unfold rN
  by_cases h : v % U = 0
  · rw [if_pos h, Nat.add_mul]; have := div_mul U v; omega
  · rw [if_neg h]
    refine Nat.mul_le_mul_right _ ?_
    split <;> omega
theorem rUp_mono {b : Bool} {way : Int} {odd : Bool} {c c' : Int} (h : c ≤ c') (hu : rUp b way odd c = true) : rUp b way odd c' = true := by
  unfold rUp at hu ⊢
  by_cases h3 : way = 3
  · rw [if_pos h3]
  · rw [if_neg h3] at hu ⊢
    by_cases h4 : way = 4
    · rw [if_pos h4] at hu ⊢; exact hu
    · rw [if_neg h4] at hu ⊢
      by_cases h5 : way = 5
      · rw [if_pos h5] at hu ⊢; exact hu
      · rw [if_neg h5] at hu ⊢
        by_cases h2 : way = 2
        · rw [if_pos h2] at hu; cases hu
        · rw [if_neg h2] at hu ⊢
          rw [Bool.or_eq_true, Bool.and_eq_true] at hu ⊢
          by_cases hc : 0 < c'
          · exact Or.inl (decide_eq_true hc)
          · rcases hu with q | q
            · have := of_decide_eq_true q; omega
            · have := of_decide_eq_true q.1
              exact Or.inr ⟨decide_eq_true (by omega), q.2⟩
theorem cmpN_mono {u v : Nat} (h : u ≤ v) (U : Nat) : cmpN u U ≤ cmpN v U := by
  unfold cmpN
  by_cases h1 : u < U
  · rw [if_pos h1]; split
    · omega
    · split <;> omega
  · rw [if_neg h1, if_neg (show ¬ v < U by omega)]
    by_cases h2 : U < u
    · rw [if_pos h2, if_pos (show U < v by omega)]; exact Int.le_refl _
    · rw [if_neg h2]; split <;> omega
/-- What is greater has no lesser rounding. -/
theorem rN_mono {U : Nat} (b : Bool) (way : Int) {u v : Nat} (h : u ≤ v) : rN U b way u ≤ rN U b way v := by
  have hd : u / U ≤ v / U := Nat.div_le_div_right h
  by_cases q : u / U < v / U
  · exact Nat.le_trans (rN_hi U b way u) (Nat.le_trans (Nat.mul_le_mul_right _ q) (rN_lo U b way v))
  · have e : u / U = v / U := by omega
    have du := div_mul U u; have dv := div_mul U v
    rw [← e] at dv
    by_cases r0 : u % U = 0
    · have e1 : rN U b way u = u / U * U := by unfold rN; rw [if_pos r0]; omega
      rw [e1, e]; exact rN_lo U b way v
    · have r1 : v % U ≠ 0 := by omega
      unfold rN
      rw [if_neg r0, if_neg r1, ← e]
      refine Nat.mul_le_mul_right _ (Nat.add_le_add_left ?_ _)
      by_cases hu : rUp b way (decide (u / U % 2 = 1)) (cmpN (2 * (u % U)) U) = true
      · rw [if_pos hu, if_pos (rUp_mono (cmpN_mono (by omega) U) hu)]; exact Nat.le_refl _
      · rw [if_neg hu]; exact Nat.zero_le _
/-- Up or not: the two that may be. -/
theorem rN_dn {U : Nat} {b : Bool} {way : Int} {v : Nat} (h : ∀ o c, rUp b way o c = false) : rN U b way v = v / U * U := by
  have := div_mul U v
  unfold rN
  by_cases r0 : v % U = 0
  · rw [if_pos r0]; omega
  · rw [if_neg r0, h]; rfl
theorem rN_up {U : Nat} {b : Bool} {way : Int} {v : Nat} (h : ∀ o c, rUp b way o c = true) : rN U b way v = if v % U = 0 then v else (v / U + 1) * U := by
  unfold rN; rw [h]; rfl
theorem rN_two (U : Nat) (b : Bool) (way : Int) (v : Nat) : rN U b way v = rN U b 4 v ∨ rN U b way v = rN U b 5 v := by
  have key : rN U b way v = v / U * U ∨ rN U b way v = if v % U = 0 then v else (v / U + 1) * U := by
    have := div_mul U v
    unfold rN
    by_cases r0 : v % U = 0
    · rw [if_pos r0, if_pos r0]; exact Or.inr rfl
    · rw [if_neg r0, if_neg r0]
      cases rUp b way (decide (v / U % 2 = 1)) (cmpN (2 * (v % U)) U)
      · exact Or.inl rfl
      · exact Or.inr rfl
  cases b with
  | true =>
    have h4 : rN U true 4 v = _ := rN_up (fun _ _ => rfl)
    have h5 : rN U true 5 v = _ := rN_dn (fun _ _ => rfl)
    rw [h4, h5]; exact key.symm
  | false =>
    have h4 : rN U false 4 v = _ := rN_dn (fun _ _ => rfl)
    have h5 : rN U false 5 v = _ := rN_up (fun _ _ => rfl)
    rw [h4, h5]; exact key
theorem rN_ge {U : Nat} (hU : 0 < U) {b : Bool} {way : Int} {v : Nat} (h : ∀ o c, rUp b way o c = true) : v ≤ rN U b way v := by
  rw [rN_up h]
  have := div_mul U v
  have := Nat.mod_lt v hU
  by_cases r0 : v % U = 0
  · rw [if_pos r0]; exact Nat.le_refl _
  · rw [if_neg r0, Nat.add_mul]; omega
theorem rN_le {U : Nat} {b : Bool} {way : Int} {v : Nat} (h : ∀ o c, rUp b way o c = false) : rN U b way v ≤ v := by
  rw [rN_dn h]; have := div_mul U v; omega
/-! ### rows of digits -/
theorem trimR_snoc (k : List UInt8) (c d : UInt8) : Lib.trimRightB (k ++ [d]) c = if d = c then Lib.trimRightB k c else k ++ [d] := by
  unfold Lib.trimRightB
  rw [List.reverse_append]
  show (List.dropWhile (· == c) (d :: k.reverse)).reverse = _
  by_cases h : d = c
  · rw [if_pos h, List.dropWhile_cons_of_pos (by rw [beq_iff_eq]; exact h)]
  · rw [if_neg h, List.dropWhile_cons_of_neg (by rw [beq_iff_eq]; exact h)]; simp
theorem B_snoc (k : List UInt8) (d : UInt8) : B (k ++ [d]) k.length = (d.toNat : Int) := by
  unfold B; rw [List.getD_eq_getElem?_getD, List.getElem?_append_right (Nat.le_refl _)]; simp
theorem more_nine (k : List UInt8) : oneMoreV (k ++ [57]) = oneMoreV k ++ [48] := by
  have e : Lib.trimRightB (k ++ [57]) 57 = Lib.trimRightB k 57 := by rw [trimR_snoc, if_pos rfl]
  have hl : (Lib.trimRightB k 57).length ≤ k.length := trimR_le _ _
  have er : List.replicate ((k ++ [57]).length - (Lib.trimRightB k 57).length) (48 : UInt8) = List.replicate (k.length - (Lib.trimRightB k 57).length) 48 ++ [48] := by
    rw [List.length_append, List.length_singleton, show k.length + 1 - (Lib.trimRightB k 57).length = k.length - (Lib.trimRightB k 57).length + 1 by omega, List.replicate_succ']
  unfold oneMoreV
  rw [e, er]
  by_cases h : Lib.trimRightB k 57 = []
  · rw [if_pos h, if_pos h]; rfl
  · rw [if_neg h, if_neg h]; simp [List.append_assoc]
theorem more_snoc (k : List UInt8) (d : UInt8) (h : d ≠ 57) : oneMoreV (k ++ [d]) = k ++ [UInt8.ofNat (d.toNat + 1)] := by
  have e : Lib.trimRightB (k ++ [d]) 57 = k ++ [d] := by rw [trimR_snoc, if_neg h]
  have el : (k ++ [d]).length - 1 = k.length := by simp
  have en : ((d.toNat : Int) + 1).toNat = d.toNat + 1 := by omega
  unfold oneMoreV
  rw [e, if_neg (by simp), el, List.take_left, B_snoc, en, Nat.sub_self]
  simp
theorem natD_snoc (k : List UInt8) (d : UInt8) : natD (k ++ [d]) = natD k * 10 + (d.toNat - 48) := by
  rw [natD_app]; simp [natD]
theorem more_val : ∀ (n : Nat) (k : List UInt8), k.length = n → k.all dgB = true → natD (oneMoreV k) = natD k + 1 ∧ (oneMoreV k).all dgB = true ∧ (oneMoreV k).length ≤ k.length + 1
  | 0, k, hn, _ => by
    have e : k = [] := List.eq_nil_of_length_eq_zero hn
    subst e
    have e1 : oneMoreV [] = [49] := by decide
    rw [e1]; decide
  | n + 1, k, hn, hd => by
    rcases List.eq_nil_or_concat k with e | ⟨L, d, e⟩
    · subst e; simp at hn
    · subst e
      rw [List.concat_eq_append] at hn hd ⊢
      rw [List.all_append, Bool.and_eq_true] at hd
      have hl : L.length = n := by simpa using hn
      obtain ⟨i1, i2, i3⟩ := more_val n L hl hd.1
      have dd : dgB d = true := by have := hd.2; rw [List.all_cons, Bool.and_eq_true] at this; exact this.1
      have db := dgB_le dd
      by_cases h : d = 57
      · subst h
        rw [more_nine, natD_snoc, natD_snoc, i1, List.all_append, i2]
        refine ⟨?_, rfl, by simp; omega⟩
        show (natD L + 1) * 10 + (48 - 48) = natD L * 10 + (57 - 48) + 1
        omega
      · have h9 : d.toNat ≠ 57 := fun q => h (UInt8.toNat_inj.1 q)
        have e : (UInt8.ofNat (d.toNat + 1)).toNat = d.toNat + 1 := by rw [UInt8.toNat_ofNat']; omega
        have dn : dgB (UInt8.ofNat (d.toNat + 1)) = true := decide_eq_true (by rw [e]; omega)
        rw [more_snoc L d h, natD_snoc, natD_snoc, e, List.all_append, hd.1, List.all_cons, dn]
        exact ⟨by omega, rfl, by simp⟩
theorem natD_odd {k : List UInt8} (hd : k.all dgB = true) : oddL k = decide (natD k % 2 = 1) := by
  rcases List.eq_nil_or_concat k with e | ⟨L, d, e⟩
  · subst e; rfl
  · subst e
    rw [List.concat_eq_append] at hd ⊢
    rw [List.all_append, Bool.and_eq_true] at hd
    have dd : dgB d = true := by have := hd.2; rw [List.all_cons, Bool.and_eq_true] at this; exact this.1
    have db := dgB_le dd
    have el : (L ++ [d]).length - 1 = L.length := by simp
    unfold oddL
    rw [el, B_snoc, natD_snoc, decide_eq_true (show L ++ [d] ≠ [] by simp), Bool.true_and]
    have : (d.toNat : Int) % 2 = 1 ↔ (natD L * 10 + (d.toNat - 48)) % 2 = 1 := by omega
    simp only [this]
theorem natD_pos {k : List UInt8} (hd : k.all dgB = true) (h0 : k ≠ []) (h : B k (k.length - 1) ≠ 48) : 0 < natD k := by
  rcases List.eq_nil_or_concat k with e | ⟨L, d, e⟩
  · exact absurd e h0
  · subst e
    rw [List.concat_eq_append] at hd h ⊢
    rw [List.all_append, Bool.and_eq_true] at hd
    have dd : dgB d = true := by have := hd.2; rw [List.all_cons, Bool.and_eq_true] at this; exact this.1
    have db := dgB_le dd
    have el : (L ++ [d]).length - 1 = L.length := by simp
    rw [el, B_snoc] at h
    rw [natD_snoc]
    omega
/-! ### what is made -/
theorem dropW_split : ∀ l : List UInt8, ∃ i, l = List.replicate i 48 ++ Lib.trimLeftB l 48
  | [] => ⟨0, rfl⟩
  | b :: l => by
    unfold Lib.trimLeftB
    by_cases h : b = 48
    · obtain ⟨i, hi⟩ := dropW_split l
      rw [List.dropWhile_cons_of_pos (by rw [beq_iff_eq]; exact h)]
      refine ⟨i + 1, ?_⟩
      rw [List.replicate_succ, List.cons_append, h]
      exact congrArg (List.cons 48) hi
    · rw [List.dropWhile_cons_of_neg (by rw [beq_iff_eq]; exact h)]; exact ⟨0, rfl⟩
theorem trimL_head : ∀ l : List UInt8, Lib.trimLeftB l 48 = [] ∨ B (Lib.trimLeftB l 48) 0 ≠ 48
  | [] => Or.inl rfl
  | b :: l => by
    unfold Lib.trimLeftB
    by_cases h : b = 48
    · rw [List.dropWhile_cons_of_pos (by rw [beq_iff_eq]; exact h)]; exact trimL_head l
    · rw [List.dropWhile_cons_of_neg (by rw [beq_iff_eq]; exact h)]
      exact Or.inr (fun q => h (byte48 q))
theorem trimR_rev (m : List UInt8) : Lib.trimRightB m 48 = (Lib.trimLeftB m.reverse 48).reverse := rfl
theorem trimR_split (m : List UInt8) : ∃ j, m = Lib.trimRightB m 48 ++ List.replicate j 48 := by
  obtain ⟨j, hj⟩ := dropW_split m.reverse
  refine ⟨j, ?_⟩
  have := congrArg List.reverse hj
  rw [List.reverse_reverse, List.reverse_append, List.reverse_replicate] at this
  exact this
theorem B_rev {r : List UInt8} (h : r ≠ []) : B r.reverse (r.length - 1) = B r 0 := by
  have : r.length ≠ 0 := fun e => h (List.eq_nil_of_length_eq_zero e)
  unfold B
  rw [List.getD_eq_getElem?_getD, List.getD_eq_getElem?_getD, List.getElem?_reverse (by omega), show r.length - 1 - (r.length - 1) = 0 by omega]
theorem trimR_last (m : List UInt8) : Lib.trimRightB m 48 = [] ∨ B (Lib.trimRightB m 48) ((Lib.trimRightB m 48).length - 1) ≠ 48 := by
  rw [trimR_rev]
  rcases trimL_head m.reverse with h | h
  · rw [h]; exact Or.inl rfl
  · by_cases h0 : Lib.trimLeftB m.reverse 48 = []
    · rw [h0]; exact Or.inl rfl
    · rw [List.length_reverse, B_rev h0]; exact Or.inr h
theorem mkD_split (D : List UInt8) : ∃ i j : Nat, D = List.replicate i 48 ++ (mkD D ++ List.replicate j 48) ∧ mkM D = j := by
  obtain ⟨i, hi⟩ := dropW_split D
  obtain ⟨j, hj⟩ := trimR_split (Lib.trimLeftB D 48)
  have hj2 : Lib.trimLeftB D 48 = mkD D ++ List.replicate j 48 := hj
  refine ⟨i, j, ?_, ?_⟩
  · rw [← hj2]; exact hi
  · unfold mkM; rw [congrArg List.length hj2, List.length_append, List.length_replicate]; omega
theorem mkD_ends (D : List UInt8) : mkD D = [] ∨ (B (mkD D) 0 ≠ 48 ∧ B (mkD D) ((mkD D).length - 1) ≠ 48) := by
  by_cases h0 : mkD D = []
  · exact Or.inl h0
  · obtain ⟨j, hj⟩ := trimR_split (Lib.trimLeftB D 48)
    have hj2 : Lib.trimLeftB D 48 = mkD D ++ List.replicate j 48 := hj
    refine Or.inr ⟨?_, (trimR_last (Lib.trimLeftB D 48)).resolve_left h0⟩
    have hh := trimL_head D
    rw [hj2] at hh
    have h1 := hh.resolve_left (fun e => h0 (List.append_eq_nil_iff.1 e).1)
    intro q
    apply h1
    obtain ⟨a, r, e⟩ : ∃ a r, mkD D = a :: r := by
      cases hc : mkD D with
      | nil => exact absurd hc h0
      | cons a r => exact ⟨a, r, rfl⟩
    rw [e] at q ⊢
    exact q
/-- What is made denotes the number of its digits. -/
theorem make_val (b : Bool) (D : List UInt8) (e : Int) (hd : D.all dgB = true) (he : -100000 ≤ e) :
    (∃ m y, makeV b D e = (decV b m y, 0) ∧ rightV m y = true ∧ vD m y = natD D * 10 ^ (e + 100000).toNat ∧ (m = [] ∨ e ≤ y) ∧ m = mkD D) ∨ makeV b D e = (decV false [] 0, 2) := by
  obtain ⟨i, j, hD, hj⟩ := mkD_split D
  have hv : natD D = natD (mkD D) * 10 ^ j := by
    have h2 := congrArg natD hD
    rw [natD_app, natD_app, natD_zeros, natD_zeros, List.length_replicate, Nat.zero_mul, Nat.zero_add, Nat.add_zero] at h2
    exact h2
  have hm : (mkD D).all dgB = true := by
    have h2 := hd
    rw [hD, List.all_append, List.all_append, Bool.and_eq_true, Bool.and_eq_true] at h2
    exact h2.2.1
  have he2 := mkD_ends D
  obtain ⟨m, hmD⟩ : ∃ m, mkD D = m := ⟨_, rfl⟩
  unfold makeV
  rw [if_pos hd, hj]
  rw [hmD] at hv hm he2 ⊢
  by_cases h0 : m = []
  · subst h0
    refine Or.inl ⟨[], 0, if_pos rfl, rfl, ?_, Or.inl rfl, rfl⟩
    rw [vD_nil, hv]; simp [natD]
  · rw [if_neg h0]
    by_cases hc : m.length ≤ 1100 ∧ e ≤ 100000 ∧ -100000 ≤ e + (j : Int) ∧ e + (j : Int) ≤ 100000
    · refine Or.inl ⟨m, e + j, if_pos hc, ?_, ?_, Or.inr (by omega), rfl⟩
      · have hr := he2.resolve_left h0
        exact (⟨h0, hc.1, hm, hr.1, hr.2, hc.2.2.1, hc.2.2.2⟩ : RD m (e + j)).right
      · unfold vD
        rw [hv, show (e + (j : Int) + 100000).toNat = j + (e + 100000).toNat by omega, Nat.pow_add, Nat.mul_assoc]
    · exact Or.inr (if_neg hc)
theorem mkD_short (D : List UInt8) : (mkD D).length ≤ D.length ∧ 0 ≤ mkM D ∧ mkM D ≤ D.length := by
  obtain ⟨i, j, hD, hj⟩ := mkD_split D
  have := congrArg List.length hD
  rw [List.length_append, List.length_append, List.length_replicate, List.length_replicate] at this
  omega
theorem make_ok (b : Bool) (D : List UInt8) (e : Int) (hd : D.all dgB = true) (hl : D.length ≤ 1100) (e0 : -90000 ≤ e) (e1 : e ≤ 90000) : makeV b D e ≠ (decV false [] 0, 2) := by
  have h := mkD_short D
  unfold makeV
  rw [if_pos hd]
  by_cases h0 : mkD D = []
  · rw [if_pos h0]; intro q; have := congrArg Prod.snd q; simp at this
  · rw [if_neg h0, if_pos ⟨by omega, by omega, by omega, by omega⟩]; intro q; have := congrArg Prod.snd q; simp at this
/-! ### a right decimal, cut -/
theorem cut_val {l : List UInt8} {x : Int} (h : RD l x) (b : Bool) (N way : Int) (hN : N < l.length) :
    ∃ r, vD l x = natD (keptV l N) * 10 ^ (x + l.length - N + 100000).toNat + r ∧ 0 < r ∧ r < 10 ^ (x + l.length - N + 100000).toNat ∧
      upV b (keptV l N) (restV l N) way = rUp b way (decide (natD (keptV l N) % 2 = 1)) (cmpN (2 * r) (10 ^ (x + l.length - N + 100000).toNat)) ∧ (keptV l N).all dgB = true ∧ ((keptV l N).length : Int) = max 0 N := by
  have hx := h.x0
  by_cases h0 : 0 ≤ N
  · obtain ⟨k, rfl⟩ : ∃ k : Nat, N = (k : Int) := ⟨N.toNat, by omega⟩
    have k1 : k < l.length := by omega
    have ek : keptV l (k : Int) = l.take k := if_pos h0
    have er : restV l (k : Int) = l.drop k := if_pos h0
    have ht : (l.take k).all dgB = true := by rw [List.all_eq_true]; exact fun b hb => List.all_eq_true.1 h.dg b (List.mem_of_mem_take hb)
    have hd : (l.drop k).all dgB = true := by rw [List.all_eq_true]; exact fun b hb => List.all_eq_true.1 h.dg b (List.mem_of_mem_drop hb)
    have hs : natD l = natD (l.take k) * 10 ^ (l.drop k).length + natD (l.drop k) := by
      have := natD_app (l.take k) (l.drop k); rw [List.take_append_drop] at this; exact this
    have dl : (l.drop k).length = l.length - k := List.length_drop
    have d0 : l.drop k ≠ [] := fun e => by have := congrArg List.length e; rw [dl] at this; simp at this; omega
    have dB : B (l.drop k) ((l.drop k).length - 1) ≠ 48 := by
      rw [B_drop, dl, show k + (l.length - k - 1) = l.length - 1 by omega]; exact h.la
    have dp := natD_pos hd d0 dB
    have dlt := natD_lt _ hd
    have pe : 10 ^ (x + l.length - (k : Int) + 100000).toNat = 10 ^ (l.drop k).length * 10 ^ (x + 100000).toNat := by
      rw [← Nat.pow_add, dl, show (x + (l.length : Int) - (k : Int) + 100000).toNat = l.length - k + (x + 100000).toNat by omega]
    have cb : Lib.compareBytes (l.drop k) [53] = cmpN (2 * (natD (l.drop k) * 10 ^ (x + 100000).toNat)) (10 ^ (l.drop k).length * 10 ^ (x + 100000).toNat) := by
      have l48 : (l.drop k).getLast? ≠ some 48 := fun e => dB (getLast_B d0 e)
      rw [cmpP_eq _ _ hd (by decide) l48 (by decide), cmpP_val (l.drop k).length _ _ hd (by decide) (Nat.le_refl _) (by rw [dl]; simp; omega)]
      rw [Nat.sub_self, ← Nat.mul_assoc, cmpN_mul _ _ (Nat.pow_pos (by decide)), ← cmpN_mul _ _ (show 0 < 2 by decide)]
      have e1 : natD (l.drop k) * 10 ^ 0 * 2 = 2 * natD (l.drop k) := by rw [Nat.pow_zero]; omega
      have e2 : natD [53] * 10 ^ ((l.drop k).length - [(53 : UInt8)].length) * 2 = 10 ^ (l.drop k).length := by
        obtain ⟨j, hj⟩ : ∃ j, (l.drop k).length = j + 1 := ⟨(l.drop k).length - 1, by omega⟩
        rw [hj, Nat.pow_succ]
        show 5 * 10 ^ (j + 1 - 1) * 2 = 10 ^ j * 10
        rw [Nat.add_sub_cancel]; omega
      rw [e1, e2]
    rw [ek, er, pe]
    refine ⟨natD (l.drop k) * 10 ^ (x + 100000).toNat, ?_, Nat.mul_pos dp (Nat.pow_pos (by decide)), Nat.mul_lt_mul_of_pos_right dlt (Nat.pow_pos (by decide)), ?_, ht, ?_⟩
    · unfold vD; rw [hs, Nat.add_mul, Nat.mul_assoc]
    · rw [← cb, ← natD_odd ht]; rfl
    · rw [List.length_take]; omega
  · have ek : keptV l N = [] := if_neg h0
    have er : restV l N = 48 :: l := if_neg h0
    have vh := vD_hi h
    obtain ⟨E, hE⟩ : ∃ E, l.length + (x + 100000).toNat = E := ⟨_, rfl⟩
    rw [hE] at vh
    obtain ⟨F, hF⟩ : ∃ F, (x + l.length - N + 100000).toNat = E + (F + 1) := ⟨(x + l.length - N + 100000).toNat - E - 1, by omega⟩
    have pe : 10 * 10 ^ E ≤ 10 ^ (E + (F + 1)) := by
      rw [show E + (F + 1) = (E + 1) + F by omega, Nat.pow_add, Nat.pow_succ, Nat.mul_comm 10]
      exact Nat.le_mul_of_pos_right _ (Nat.pow_pos (by decide))
    have cb : Lib.compareBytes (48 :: l) [53] = cmpN (2 * vD l x) (10 ^ (E + (F + 1))) := by
      unfold Lib.compareBytes cmpN; rw [if_pos (by decide), if_pos (by omega)]
    rw [ek, er, hF]
    refine ⟨vD l x, by simp [natD], vD_pos h, by omega, ?_, rfl, by simp; omega⟩
    rw [← cb]; rfl
theorem new_val {l : List UInt8} {x : Int} (h : RD l x) (b : Bool) (N way : Int) (hN : N < l.length) :
    natD (newV b l N way) * 10 ^ (x + l.length - N + 100000).toNat = rN (10 ^ (x + l.length - N + 100000).toNat) b way (vD l x) ∧ (newV b l N way).all dgB = true ∧ (newV b l N way).length ≤ l.length := by
  obtain ⟨r, hv, r0, r1, hu, hk, hkl⟩ := cut_val h b N way hN
  obtain ⟨U, hU⟩ : ∃ U, 10 ^ (x + l.length - N + 100000).toNat = U := ⟨_, rfl⟩
  rw [hU] at hv r1 hu ⊢
  have h0 := h.ne
  have ln : l.length ≠ 0 := fun e => h.ne (List.eq_nil_of_length_eq_zero e)
  obtain ⟨m1, m2, m3⟩ := more_val _ (keptV l N) rfl hk
  have dm := (Nat.div_mod_unique (a := vD l x) (b := U) (c := r) (d := natD (keptV l N)) (by omega)).2 ⟨by rw [hv, Nat.mul_comm U]; omega, r1⟩
  have e : rN U b way (vD l x) = (natD (keptV l N) + if upV b (keptV l N) (restV l N) way = true then 1 else 0) * U := by
    unfold rN
    rw [dm.1, dm.2, if_neg (by omega), hu]
  rw [e]
  unfold newV
  cases hc : upV b (keptV l N) (restV l N) way
  · exact ⟨rfl, hk, by rw [if_neg (by simp)]; omega⟩
  · exact ⟨by rw [if_pos rfl, if_pos rfl, m1], m2, by rw [if_pos rfl]; omega⟩
/-- What is rounded to places. -/
theorem place_val {l : List UInt8} {x : Int} (b : Bool) (h : rightV l x = true) {n way : Int} (hw : wayV way = true) (n0 : -100000 ≤ n) (n1 : n ≤ 100000) :
    (∃ m y, placeV b l x n way = (decV b m y, 0) ∧ rightV m y = true ∧ vD m y = rN (10 ^ (-n + 100000).toNat) b way (vD l x) ∧ (m = [] ∨ -n ≤ y)) ∨ (placeV b l x n way = (decV false [] 0, 2) ∧ ¬ (-90000 ≤ n ∧ n ≤ 90000)) := by
  have e : placeV b l x n way = rndV b l x (pointV l x + n) way := if_pos ⟨h, hw, n0, n1⟩
  have hp : pointV l x = (l.length : Int) + x := by unfold pointV; rw [if_pos h]
  rw [e, hp]
  unfold rndV
  by_cases hl : l = []
  · rw [if_pos (Or.inr hl)]
    refine Or.inl ⟨l, x, rfl, h, ?_, Or.inl hl⟩
    subst hl
    rw [vD_nil]; unfold rN; rw [if_pos (Nat.zero_mod _)]
  · have hr := RD.of h hl
    have hx := hr.x0
    by_cases hc : (l.length : Int) ≤ (l.length : Int) + x + n
    · rw [if_pos (Or.inl hc)]
      refine Or.inl ⟨l, x, rfl, h, ?_, Or.inr (by omega)⟩
      unfold rN
      rw [if_pos ?_]
      unfold vD
      rw [show (x + 100000).toNat = (x + n).toNat + (-n + 100000).toNat by omega, Nat.pow_add, ← Nat.mul_assoc]
      exact Nat.mul_mod_left _ _
    · rw [if_neg (fun q => q.elim hc hl)]
      obtain ⟨v1, v2, v3⟩ := new_val hr b ((l.length : Int) + x + n) way (by omega)
      rw [show x + (l.length : Int) - ((l.length : Int) + x + n) = -n by omega] at v1 ⊢
      rcases make_val b (newV b l ((l.length : Int) + x + n) way) (-n) v2 (by omega) with ⟨m, y, q1, q2, q3, q4, q5⟩ | q
      · exact Or.inl ⟨m, y, q1, q2, q3.trans v1, q4⟩
      · exact Or.inr ⟨q, fun hn => make_ok b _ (-n) v2 (Nat.le_trans v3 hr.len) (by omega) (by omega) q⟩
/-- What is rounded stays as it is. -/
theorem place_again {m : List UInt8} {y : Int} (b : Bool) (h : rightV m y = true) {n way : Int} (hw : wayV way = true) (n0 : -100000 ≤ n) (n1 : n ≤ 100000) (hm : m = [] ∨ -n ≤ y) : placeV b m y n way = (decV b m y, 0) := by
  have e : placeV b m y n way = rndV b m y (pointV m y + n) way := if_pos ⟨h, hw, n0, n1⟩
  have hp : pointV m y = (m.length : Int) + y := by unfold pointV; rw [if_pos h]
  rw [e, hp]
  exact if_pos (hm.elim Or.inr (fun q => Or.inl (by omega)))
theorem vD_same {l m : List UInt8} {x y : Int} (h : rightV l x = true) (g : rightV m y = true) (e : vD l x = vD m y) : l = m ∧ x = y := by
  by_cases hl : l = []
  · by_cases hm : m = []
    · subst hl; subst hm
      have x0 : x = 0 := of_decide_eq_true h
      have y0 : y = 0 := of_decide_eq_true g
      exact ⟨rfl, by omega⟩
    · have := vD_pos (RD.of g hm); rw [hl, vD_nil] at e; omega
  · by_cases hm : m = []
    · have := vD_pos (RD.of h hl); rw [hm, vD_nil] at e; omega
    · exact vD_inj (RD.of h hl) (RD.of g hm) e
/-- What is greater has no lesser rounding. -/
theorem place_mono {b : Bool} {l : List UInt8} {x : Int} {c : Bool} {m : List UInt8} {y : Int} (h : rightV l x = true) (g : rightV m y = true) {n way : Int} (hc : cmpV b l x c m y ≤ 0)
    {l2 : List UInt8} {x2 : Int} {m2 : List UInt8} {y2 : Int} (e1 : rightV l2 x2 = true) (v1 : vD l2 x2 = rN (10 ^ (-n + 100000).toNat) b way (vD l x)) (e2 : rightV m2 y2 = true) (v2 : vD m2 y2 = rN (10 ^ (-n + 100000).toNat) c way (vD m y)) : cmpV b l2 x2 c m2 y2 ≤ 0 := by
  rw [cmp_val b l x c m y h g, cmpI_le] at hc
  rw [cmp_val b l2 x2 c m2 y2 e1 e2, cmpI_le]
  have d1 : ∀ (l : List UInt8) (x : Int), sD true l x = -(vD l x : Int) := fun _ _ => rfl
  have d2 : ∀ (l : List UInt8) (x : Int), sD false l x = (vD l x : Int) := fun _ _ => rfl
  cases b <;> cases c <;> simp only [d1, d2] at hc ⊢
  · have := rN_mono (U := 10 ^ (-n + 100000).toNat) false way (show vD l x ≤ vD m y by omega); omega
  · have z1 : vD l x = 0 := by omega
    have z2 : vD m y = 0 := by omega
    have r0 : ∀ b, rN (10 ^ (-n + 100000).toNat) b way 0 = 0 := fun b => by unfold rN; rw [if_pos (Nat.zero_mod _)]
    rw [z1, r0] at v1; rw [z2, r0] at v2
    omega
  · omega
  · have := rN_mono (U := 10 ^ (-n + 100000).toNat) true way (show vD m y ≤ vD l x by omega); omega
/-- On the side that the way says. -/
theorem place_low {b : Bool} {l : List UInt8} {x : Int} (h : rightV l x = true) {n : Int} {m : List UInt8} {y : Int} (g : rightV m y = true) (v : vD m y = rN (10 ^ (-n + 100000).toNat) b 4 (vD l x)) : cmpV b m y b l x ≤ 0 := by
  rw [cmp_val b m y b l x g h, cmpI_le]
  have d1 : ∀ (l : List UInt8) (x : Int), sD true l x = -(vD l x : Int) := fun _ _ => rfl
  have d2 : ∀ (l : List UInt8) (x : Int), sD false l x = (vD l x : Int) := fun _ _ => rfl
  cases b <;> simp only [d1, d2]
  · have := rN_le (U := 10 ^ (-n + 100000).toNat) (b := false) (way := 4) (v := vD l x) (fun _ _ => rfl); omega
  · have := rN_ge (U := 10 ^ (-n + 100000).toNat) (Nat.pow_pos (by decide)) (b := true) (way := 4) (v := vD l x) (fun _ _ => rfl); omega
theorem place_high {b : Bool} {l : List UInt8} {x : Int} (h : rightV l x = true) {n : Int} {m : List UInt8} {y : Int} (g : rightV m y = true) (v : vD m y = rN (10 ^ (-n + 100000).toNat) b 5 (vD l x)) : cmpV b l x b m y ≤ 0 := by
  rw [cmp_val b l x b m y h g, cmpI_le]
  have d1 : ∀ (l : List UInt8) (x : Int), sD true l x = -(vD l x : Int) := fun _ _ => rfl
  have d2 : ∀ (l : List UInt8) (x : Int), sD false l x = (vD l x : Int) := fun _ _ => rfl
  cases b <;> simp only [d1, d2]
  · have := rN_ge (U := 10 ^ (-n + 100000).toNat) (Nat.pow_pos (by decide)) (b := false) (way := 5) (v := vD l x) (fun _ _ => rfl); omega
  · have := rN_le (U := 10 ^ (-n + 100000).toNat) (b := true) (way := 5) (v := vD l x) (fun _ _ => rfl); omega
/-- The three roundings of one decimal: the ways' own is the low or the high one. -/
theorem place_two {b : Bool} {v : Nat} {U : Nat} {way : Int} {l m k : List UInt8} {x y z : Int} (h : rightV l x = true) (g : rightV m y = true) (f : rightV k z = true) (v1 : vD l x = rN U b way v) (v2 : vD m y = rN U b 4 v) (v3 : vD k z = rN U b 5 v) : (l = m ∧ x = y) ∨ (l = k ∧ x = z) := by
  rcases rN_two U b way v with e | e
  · exact Or.inl (vD_same h g (v1.trans (e.trans v2.symm)))
  · exact Or.inr (vD_same h f (v1.trans (e.trans v3.symm)))
/-- Rounded to so many digits: no more of them, and the sign stays. -/
theorem sig_short {b : Bool} {l : List UInt8} {x : Int} (h : rightV l x = true) {n : Nat} (n1 : 1 ≤ n) {way : Int} (hw : wayV way = true) :
    (∃ m y, sigV b l x n way = (decV b m y, 0) ∧ m.length ≤ n) ∨ sigV b l x n way = (decV false [] 0, 2) := by
  have e : sigV b l x n way = rndV b l x n way := if_pos ⟨h, hw, by omega⟩
  rw [e]
  unfold rndV
  by_cases hl : l = []
  · rw [if_pos (Or.inr hl)]; exact Or.inl ⟨l, x, rfl, by rw [hl]; exact Nat.zero_le _⟩
  · by_cases hc : (l.length : Int) ≤ n
    · rw [if_pos (Or.inl hc)]; exact Or.inl ⟨l, x, rfl, by omega⟩
    · rw [if_neg (fun q => q.elim hc hl)]
      have hr := RD.of h hl
      obtain ⟨_, v2, _⟩ := new_val hr b n way (by omega)
      have hx := hr.x0
      rcases make_val b (newV b l n way) (x + l.length - n) v2 (by omega) with ⟨m, y, q1, q2, q3, q4, q5⟩ | q
      · refine Or.inl ⟨m, y, q1, ?_⟩
        subst q5
        have kl : (keptV l n).length = n := by
          have ek : keptV l (n : Int) = l.take n := if_pos (by omega)
          rw [ek, List.length_take]; omega
        unfold newV
        by_cases hu : upV b (keptV l n) (restV l n) way = true
        · rw [if_pos hu]
          by_cases ht : Lib.trimRightB (keptV l n) 57 = []
          · have e1 : oneMoreV (keptV l n) = [49] ++ List.replicate ((keptV l n).length - (Lib.trimRightB (keptV l n) 57).length) 48 := (if_pos ht).trans rfl
            have e2 : mkD (oneMoreV (keptV l n)) = [49] := by
              unfold mkD
              rw [e1, trimL_fit (l := [49]) (by decide) (by decide), trimR_zeros (by decide) (by decide)]
            rw [e2]; exact n1
          · have tl : (Lib.trimRightB (keptV l n) 57).length ≤ (keptV l n).length := trimR_le _ _
            have t0 : (Lib.trimRightB (keptV l n) 57).length ≠ 0 := fun q => ht (List.eq_nil_of_length_eq_zero q)
            have e1 : (oneMoreV (keptV l n)).length = (keptV l n).length := by
              unfold oneMoreV
              rw [if_neg ht, List.length_append, List.length_append, List.length_take, List.length_singleton, List.length_replicate]; omega
            have := (mkD_short (oneMoreV (keptV l n))).1
            omega
        · rw [if_neg hu]
          have := (mkD_short (keptV l n)).1
          omega
      · exact Or.inr q
theorem bytes_eq {a b : ByteArray} (h : a.data.toList = b.data.toList) : a = b := by
  cases a with
  | mk a => cases b with
    | mk b => rw [show a = b from Array.toList_inj.1 h]
theorem bytes_back (s : ByteArray) : (⟨s.data.toList.toArray⟩ : ByteArray) = s := bytes_eq (by simp)
end Go.Proofs.YtgjhpcmpgkfnkaaDoor
