/-
  What is printed is read back as it was: plain facts.
-/
import Derived.Test.YtgjhpcmpgkfnkaaDoorA32b
import Derived.Test.YtgjhpcmpgkfnkaaDoorA21
namespace Go.Proofs.YtgjhpcmpgkfnkaaDoor
open Go.RowKit Go.Shelf

/-- A row of digits ahead: the run goes on behind it. -/
theorem run_app : ∀ (a r : List UInt8), a.all dgB = true → run isDg (a ++ r) = a.length + run isDg r
  | [], r, _ => by simp
  | b :: a, r, h => by
    rw [List.all_cons, Bool.and_eq_true] at h
    have hd := dgB_le h.1
    show (if isDg (b.toNat : Int) = true then run isDg (a ++ r) + 1 else 0) = _
    rw [if_pos (isDg_t ⟨by omega, by omega⟩), run_app a r h.2, List.length_cons]; omega
theorem run_stop {c : UInt8} {r : List UInt8} (h : ¬ (48 ≤ (c.toNat : Int) ∧ (c.toNat : Int) ≤ 57)) : run isDg (c :: r) = 0 := by
  show (if isDg (c.toNat : Int) = true then run isDg r + 1 else 0) = _
  rw [if_neg (by rw [isDg_f h]; simp)]
theorem docM_row (ng : Bool) (a r : List UInt8) (ha : a.all dgB = true) (hr : run isDg r = 0) (a0 : a ≠ []) (h46 : ¬ (r ≠ [] ∧ B r 0 = 46)) : docM ng (a ++ r) = docE ng a 0 r := by
  have e : run isDg (a ++ r) = a.length := by rw [run_app a r ha, hr]; rfl
  unfold docM
  rw [e, List.drop_left, List.take_left, if_neg h46, if_neg a0]
theorem docM_two (ng : Bool) (a c r : List UInt8) (ha : a.all dgB = true) (hc : c.all dgB = true) (hr : run isDg r = 0) (h0 : a ++ c ≠ []) : docM ng (a ++ 46 :: (c ++ r)) = docE ng (a ++ c) c.length r := by
  have e : run isDg (a ++ 46 :: (c ++ r)) = a.length := by rw [run_app a _ ha, run_stop (by decide)]; rfl
  have e2 : run isDg (c ++ r) = c.length := by rw [run_app c r hc, hr]; rfl
  have ed : (46 :: (c ++ r)).drop 1 = c ++ r := rfl
  unfold docM
  rw [e, List.drop_left, List.take_left, if_pos ⟨by simp, rfl⟩, ed, e2, List.take_left, List.drop_left, if_neg h0]
theorem docE_end (ng : Bool) (a : List UInt8) (b : Int) : docE ng a b [] = makeV ng a (-b) := by
  unfold docE; rw [if_neg (fun q => q.1 rfl), if_neg (fun q => q rfl)]
theorem all_zeros (n : Nat) : (List.replicate n (48 : UInt8)).all dgB = true := by
  rw [List.all_eq_true]; intro b hb; rw [(List.mem_replicate.1 hb).2]; decide
/-- A right decimal with digits. -/
structure RD (l : List UInt8) (x : Int) : Prop where
  ne : l ≠ []
  len : l.length ≤ 1100
  dg : l.all dgB = true
  hd : B l 0 ≠ 48
  la : B l (l.length - 1) ≠ 48
  x0 : -100000 ≤ x
  x1 : x ≤ 100000
theorem RD.of {l : List UInt8} {x : Int} (h : rightV l x = true) (hl : l ≠ []) : RD l x := by
  unfold rightV at h
  rw [if_neg hl] at h
  simp only [Bool.and_eq_true, decide_eq_true_eq] at h
  exact ⟨hl, h.1, h.2.1, h.2.2.1, h.2.2.2.1, h.2.2.2.2.1, h.2.2.2.2.2⟩
theorem trimL_zeros (l : List UInt8) : ∀ i : Nat, Lib.trimLeftB (List.replicate i 48 ++ l) 48 = Lib.trimLeftB l 48
  | 0 => rfl
  | i + 1 => by
    have ih := trimL_zeros l i
    unfold Lib.trimLeftB at ih ⊢
    rw [List.replicate_succ, List.cons_append, List.dropWhile_cons_of_pos (by rfl)]; exact ih
theorem trimL_fit {l : List UInt8} (h : l ≠ []) (h0 : B l 0 ≠ 48) (r : List UInt8) : Lib.trimLeftB (l ++ r) 48 = l ++ r := by
  cases l with
  | nil => exact absurd rfl h
  | cons b l => unfold Lib.trimLeftB; exact List.dropWhile_cons_of_neg (by rw [beq_iff_eq]; intro e; subst e; exact h0 rfl)
theorem trimR_zeros {l : List UInt8} (_h : l ≠ []) (h0 : B l (l.length - 1) ≠ 48) (j : Nat) : Lib.trimRightB (l ++ List.replicate j 48) 48 = l := by
  have e := Lib.trimRightB_take (l ++ List.replicate j 48) 48 l.length (by simp) (fun k b hk hb => ?_) (fun b hk hb => ?_)
  · rw [e, List.take_left]
  · rw [List.getElem?_append_right hk] at hb
    have := List.mem_of_getElem? hb
    exact (List.mem_replicate.1 this).2
  · rw [List.getElem?_append_left (by omega)] at hb
    intro e; subst e
    exact h0 (by rw [B_some hb]; rfl)
/-- Made of a right row with zeros at both ends. -/
theorem make_fit {l : List UInt8} {x : Int} (h : RD l x) (b : Bool) (i j : Nat) : makeV b (List.replicate i 48 ++ (l ++ List.replicate j 48)) (x - j) = (decV b l x, 0) := by
  have e1 : Lib.trimLeftB (List.replicate i 48 ++ (l ++ List.replicate j 48)) 48 = l ++ List.replicate j 48 := by rw [trimL_zeros, trimL_fit h.ne h.hd]
  have e2 : mkD (List.replicate i 48 ++ (l ++ List.replicate j 48)) = l := by unfold mkD; rw [e1, trimR_zeros h.ne h.la]
  have e3 : mkM (List.replicate i 48 ++ (l ++ List.replicate j 48)) = j := by unfold mkM; rw [e1, e2, List.length_append, List.length_replicate]; omega
  have ea : (List.replicate i 48 ++ (l ++ List.replicate j 48)).all dgB = true := by rw [List.all_append, List.all_append, all_zeros, all_zeros, h.dg]; rfl
  have := h.len; have := h.x0; have := h.x1
  unfold makeV
  rw [if_pos ea, e2, e3, if_neg h.ne, if_pos ⟨by omega, by omega, by omega, by omega⟩, show x - (j : Int) + j = x by omega]
theorem make_fit0 {l : List UInt8} {x : Int} (h : RD l x) (b : Bool) (i : Nat) : makeV b (List.replicate i 48 ++ l) x = (decV b l x, 0) := by
  have := make_fit h b i 0
  simpa using this
/-- Digits of a number. -/
theorem dec_num (n : Nat) : (Lib.decDigits n).all dgB = true ∧ numF 0 (Lib.decDigits n) = n ∧ Lib.decDigits n ≠ [] := by
  induction n using Nat.strongRecOn with
  | _ n ih =>
    have one : ∀ d : Nat, d < 10 → dgB (UInt8.ofNat (48 + d)) = true ∧ ((UInt8.ofNat (48 + d)).toNat : Int) = 48 + d := fun d hd => by
      have e : (UInt8.ofNat (48 + d)).toNat = 48 + d := by rw [UInt8.toNat_ofNat']; omega
      exact ⟨decide_eq_true (by rw [e]; omega), by rw [e]; omega⟩
    by_cases h : n < 10
    · rw [Lib.decDigits_one h]
      obtain ⟨o1, o2⟩ := one n h
      refine ⟨by rw [List.all_cons, o1]; rfl, ?_, by simp⟩
      show 0 * 10 + (((UInt8.ofNat (48 + n)).toNat : Int) - 48) = n
      rw [o2]; omega
    · rw [Lib.decDigits, dif_neg h]
      obtain ⟨i1, i2, i3⟩ := ih (n / 10) (by omega)
      obtain ⟨o1, o2⟩ := one (n % 10) (by omega)
      refine ⟨by rw [List.all_append, i1, List.all_cons, o1]; rfl, ?_, by simp⟩
      rw [numF_app, i2, o2]; omega
theorem dec_short : ∀ (k n : Nat), n < 10 ^ (k + 1) → (Lib.decDigits n).length ≤ k + 1
  | 0, n, h => by rw [Lib.decDigits_one (by simpa using h)]; simp
  | k + 1, n, h => by
    by_cases h1 : n < 10
    · rw [Lib.decDigits_one h1]; simp
    · rw [Lib.decDigits, dif_neg h1, List.length_append, List.length_singleton]
      have := dec_short k (n / 10) (by rw [Nat.pow_succ] at h; omega)
      omega
theorem ten_fit (ng : Bool) (ds : List UInt8) (b sg : Int) (n : Nat) (h : n < 1000000000) : tenV ng ds b sg (Lib.decDigits n) = makeV ng ds (-b + sg * n) := by
  obtain ⟨d1, d2, d3⟩ := dec_num n
  have hl := dec_short 8 n h
  have hr : run isDg (Lib.decDigits n) = (Lib.decDigits n).length := by have := run_app (Lib.decDigits n) [] d1; rw [List.append_nil] at this; exact this
  have h0 : (Lib.decDigits n).length ≠ 0 := fun e => d3 (List.eq_nil_of_length_eq_zero e)
  unfold tenV
  rw [hr, Nat.min_eq_right hl, if_neg h0, if_neg (Nat.lt_irrefl _), List.take_length, d2]
/-- What stands behind an e. -/
theorem docE_ten (ng : Bool) (ds : List UInt8) (b x : Int) (h0 : -1000000000 < x) (h1 : x < 1000000000) : docE ng ds b ((if x < 0 then [101] else [101, 43]) ++ Lib.itoa x) = makeV ng ds (-b + x) := by
  by_cases h : x < 0
  · have e : (if x < 0 then [101] else [101, 43]) ++ Lib.itoa x = 101 :: 45 :: Lib.decDigits x.natAbs := by
      unfold Lib.itoa; rw [if_pos h, if_pos h]; rfl
    rw [e]
    refine (if_pos ⟨by simp, Or.inl rfl⟩).trans ?_
    refine (if_neg (fun q => absurd (show (45 : Int) = 43 from q.2) (by decide))).trans ((if_pos ⟨by simp, rfl⟩).trans ?_)
    refine (ten_fit ng ds b (-1) x.natAbs (by omega)).trans ?_
    congr 1; omega
  · have e : (if x < 0 then [101] else [101, 43]) ++ Lib.itoa x = 101 :: 43 :: Lib.decDigits x.toNat := by
      unfold Lib.itoa; rw [if_neg h, if_neg h]; rfl
    rw [e]
    refine (if_pos ⟨by simp, Or.inl rfl⟩).trans ?_
    refine (if_pos ⟨by simp, rfl⟩).trans ?_
    refine (ten_fit ng ds b 1 x.toNat (by omega)).trans ?_
    congr 1; omega
theorem run_ten (x : Int) : run isDg ((if x < 0 then [101] else [101, 43]) ++ Lib.itoa x) = 0 ∧ B ((if x < 0 then [101] else [101, 43]) ++ Lib.itoa x) 0 = 101 := by
  by_cases h : x < 0
  · rw [if_pos h]; exact ⟨run_stop (by decide), rfl⟩
  · rw [if_neg h]; exact ⟨run_stop (by decide), rfl⟩
/-- The printed absolute value is read back. -/
theorem docM_size (ng : Bool) {l : List UInt8} {x : Int} (h : RD l x) : docM ng (sizeT l ((l.length : Int) + x)) = (decV ng l x, 0) := by
  have hx0 := h.x0; have hx1 := h.x1; have hl := h.len
  obtain ⟨p, hp⟩ : ∃ p, (l.length : Int) + x = p := ⟨_, rfl⟩
  rw [hp]
  have ln : l.length ≠ 0 := fun e => h.ne (List.eq_nil_of_length_eq_zero e)
  unfold sizeT
  rw [if_neg h.ne]
  by_cases h1 : 1 ≤ p ∧ p ≤ 21
  · rw [if_pos h1]
    by_cases h2 : (l.length : Int) ≤ p
    · rw [if_pos h2]
      obtain ⟨j, hj⟩ : ∃ j, p.toNat - l.length = j := ⟨_, rfl⟩
      rw [hj]
      have e := docM_row ng (l ++ List.replicate j 48) [] (by rw [List.all_append, h.dg, all_zeros]; rfl) rfl (by simp [h.ne]) (fun q => q.1 rfl)
      rw [List.append_nil] at e
      rw [e, docE_end]
      have m := make_fit h ng 0 j
      rw [List.replicate_zero, List.nil_append] at m
      rw [show (-0 : Int) = x - j by omega]; exact m
    · rw [if_neg h2]
      obtain ⟨k, hk⟩ : ∃ k, p.toNat = k := ⟨_, rfl⟩
      rw [hk]
      have ht : (l.take k).all dgB = true := by rw [List.all_eq_true]; exact fun b hb => List.all_eq_true.1 h.dg b (List.mem_of_mem_take hb)
      have hd : (l.drop k).all dgB = true := by rw [List.all_eq_true]; exact fun b hb => List.all_eq_true.1 h.dg b (List.mem_of_mem_drop hb)
      have e := docM_two ng (l.take k) (l.drop k) [] ht hd rfl (by rw [List.take_append_drop]; exact h.ne)
      rw [List.append_nil, List.take_append_drop] at e
      have e2 : l.take k ++ [46] ++ l.drop k = l.take k ++ 46 :: l.drop k := by simp
      rw [e2, e, docE_end, List.length_drop]
      have m := make_fit0 h ng 0
      rw [List.replicate_zero, List.nil_append] at m
      rw [show (-((l.length - k : Nat) : Int)) = x by omega]; exact m
  · rw [if_neg h1]
    by_cases h2 : -5 ≤ p ∧ p ≤ 0
    · rw [if_pos h2]
      obtain ⟨k, hk⟩ : ∃ k, (-p).toNat = k := ⟨_, rfl⟩
      rw [hk]
      have e := docM_two ng [48] (List.replicate k 48 ++ l) [] (by decide) (by rw [List.all_append, all_zeros, h.dg]; rfl) rfl (by simp)
      rw [List.append_nil] at e
      have e2 : [48, 46] ++ List.replicate k 48 ++ l = [48] ++ 46 :: (List.replicate k 48 ++ l) := by simp
      rw [e2, e, docE_end]
      have m := make_fit0 h ng (k + 1)
      have e3 : [48] ++ (List.replicate k 48 ++ l) = List.replicate (k + 1) 48 ++ l := by rw [List.replicate_succ]; simp
      rw [e3, List.length_append, List.length_replicate]
      rw [show (-((k + l.length : Nat) : Int)) = x by omega]; exact m
    · rw [if_neg h2]
      unfold expT
      obtain ⟨T, hT⟩ : ∃ T, (if p - 1 < 0 then [101] else [101, 43]) ++ Lib.itoa (p - 1) = T := ⟨_, rfl⟩
      have rt := run_ten (p - 1)
      have de := fun b => docE_ten ng l b (p - 1) (by omega) (by omega)
      rw [hT] at rt de
      have ht : (l.take 1).all dgB = true := by rw [List.all_eq_true]; exact fun b hb => List.all_eq_true.1 h.dg b (List.mem_of_mem_take hb)
      have hd : (l.drop 1).all dgB = true := by rw [List.all_eq_true]; exact fun b hb => List.all_eq_true.1 h.dg b (List.mem_of_mem_drop hb)
      have m := make_fit0 h ng 0
      rw [List.replicate_zero, List.nil_append] at m
      by_cases h3 : 1 < l.length
      · have e2 : l.take 1 ++ (if 1 < l.length then 46 :: l.drop 1 else []) ++ (if p - 1 < 0 then [101] else [101, 43]) ++ Lib.itoa (p - 1) = l.take 1 ++ 46 :: (l.drop 1 ++ T) := by
          rw [if_pos h3, ← hT]; simp [List.append_assoc]
        have e := docM_two ng (l.take 1) (l.drop 1) T ht hd rt.1 (by rw [List.take_append_drop]; exact h.ne)
        rw [List.take_append_drop] at e
        rw [e2, e, de, List.length_drop]
        rw [show (-((l.length - 1 : Nat) : Int) + (p - 1)) = x by omega]; exact m
      · have l1 : l.take 1 = l := List.take_of_length_le (by omega)
        have e2 : l.take 1 ++ (if 1 < l.length then 46 :: l.drop 1 else []) ++ (if p - 1 < 0 then [101] else [101, 43]) ++ Lib.itoa (p - 1) = l ++ T := by
          rw [if_neg h3, l1, ← hT]; simp [List.append_assoc]
        have e := docM_row ng l T h.dg rt.1 h.ne (fun q => absurd (rt.2.symm.trans q.2) (by decide))
        rw [e2, e, de]
        rw [show (-(0 : Int) + (p - 1)) = x by omega]; exact m
theorem size_head {l : List UInt8} {x p : Int} (h : RD l x) : ¬ (sizeT l p ≠ [] ∧ B (sizeT l p) 0 = 45) := by
  intro q
  obtain ⟨b, r, rfl⟩ : ∃ b r, l = b :: r := by
    cases l with
    | nil => exact absurd rfl h.ne
    | cons b r => exact ⟨b, r, rfl⟩
  have hd := h.dg
  rw [List.all_cons, Bool.and_eq_true] at hd
  have hb := dgB_le hd.1
  have key : B (sizeT (b :: r) p) 0 = (b.toNat : Int) ∨ B (sizeT (b :: r) p) 0 = 48 := by
    unfold sizeT
    rw [if_neg (by simp)]
    by_cases h1 : 1 ≤ p ∧ p ≤ 21
    · rw [if_pos h1]
      by_cases h2 : ((b :: r).length : Int) ≤ p
      · rw [if_pos h2]; exact Or.inl rfl
      · rw [if_neg h2]
        obtain ⟨k, hk⟩ : ∃ k, p.toNat = k + 1 := ⟨p.toNat - 1, by omega⟩
        rw [hk]; exact Or.inl rfl
    · rw [if_neg h1]
      by_cases h2 : -5 ≤ p ∧ p ≤ 0
      · rw [if_pos h2]; exact Or.inr rfl
      · rw [if_neg h2]; exact Or.inl rfl
  have := q.2
  rcases key with e | e <;> rw [e] at this <;> omega
/-- What is printed is read as it was. -/
theorem par_print (b : Bool) {l : List UInt8} {x : Int} (h : rightV l x = true) : parV (printT b l x) = (decV b l x, 0) := by
  rw [parV_doc]
  unfold printT
  rw [if_pos h]
  by_cases hl : l = []
  · subst hl
    have x0 : x = 0 := of_decide_eq_true h
    subst x0
    cases b <;> rfl
  · have hr := RD.of h hl
    have hp : pointV l x = (l.length : Int) + x := by unfold pointV; rw [if_pos h]
    rw [hp]
    have m := docM_size b hr
    cases b with
    | true =>
      have e : docV ((if true = true then [45] else []) ++ sizeT l ((l.length : Int) + x)) = docM true (sizeT l ((l.length : Int) + x)) := if_pos ⟨by simp, rfl⟩
      rw [e]; exact m
    | false =>
      have e : docV ((if false = true then [45] else []) ++ sizeT l ((l.length : Int) + x)) = docM false (sizeT l ((l.length : Int) + x)) := if_neg (size_head hr)
      rw [e]; exact m
end Go.Proofs.YtgjhpcmpgkfnkaaDoor
