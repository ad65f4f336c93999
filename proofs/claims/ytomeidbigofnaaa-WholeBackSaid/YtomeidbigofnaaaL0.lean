/-
  Lists of limbs of 32 bits: the number that a list means; right lists; digits.
-/
import Derived.Test.YtomeidbigofnaaaW2
namespace Go.Proofs.Ytomeidbigofnaaa
open Go.RowKit Go.Shelf
/-- A comparison's answer. -/
def cmpI (a b : Int) : Int := if a < b then -1 else if a = b then 0 else 1
theorem cmpI_le (a b : Int) : cmpI a b ≤ 0 ↔ a ≤ b := by unfold cmpI; split <;> (try split) <;> omega

/-- A limb. -/
def Limb (x : Int) : Prop := 0 ≤ x ∧ x < 4294967296
/-- The number of a list, the lowest limb first. -/
def natV : List Int → Int
  | [] => 0
  | x :: r => x + 4294967296 * natV r
theorem natV_nonneg : ∀ {l : List Int}, (∀ x ∈ l, Limb x) → 0 ≤ natV l
  | [], _ => Int.le_refl _
  | x :: r, h => by
    have h1 := h x (by simp)
    have h2 := natV_nonneg (l := r) (fun y hy => h y (by simp [hy]))
    show 0 ≤ x + 4294967296 * natV r
    unfold Limb at h1; omega
theorem pw32 (k : Nat) : pw (32 * ((k + 1 : Nat) : Int)) = 4294967296 * pw (32 * (k : Int)) := by
  rw [show 32 * ((k + 1 : Nat) : Int) = 32 + 32 * (k : Int) by omega, pw_add 32 _ (by decide) (by omega)]; rfl
theorem natV_lt : ∀ {l : List Int}, (∀ x ∈ l, Limb x) → natV l < pw (32 * (l.length : Int))
  | [], _ => by decide
  | x :: r, h => by
    have h1 := h x (by simp)
    have h2 := natV_lt (l := r) (fun y hy => h y (by simp [hy]))
    rw [List.length_cons, pw32]
    show x + 4294967296 * natV r < _
    unfold Limb at h1; omega
theorem natV_append : ∀ (l m : List Int), natV (l ++ m) = natV l + pw (32 * (l.length : Int)) * natV m
  | [], m => by rw [List.nil_append, show pw (32 * (([] : List Int).length : Int)) = 1 from rfl, show natV [] = 0 from rfl]; omega
  | x :: r, m => by
    rw [List.cons_append, List.length_cons, pw32]
    show x + 4294967296 * natV (r ++ m) = x + 4294967296 * natV r + _
    rw [natV_append r m, Int.mul_add, ← Int.mul_assoc]; omega
theorem natV_zeros : ∀ (l : List Int), (∀ x ∈ l, x = 0) → natV l = 0
  | [], _ => rfl
  | x :: r, h => by
    have := natV_zeros r (fun y hy => h y (by simp [hy]))
    have := h x (by simp)
    show x + 4294967296 * natV r = 0
    omega
theorem natV_take_succ {l : List Int} {k : Nat} (h : k < l.length) : natV (l.take (k + 1)) = natV (l.take k) + pw (32 * (k : Int)) * l[k] := by
  rw [List.take_succ_eq_append_getElem h, natV_append]
  rw [List.length_take, Nat.min_eq_left (by omega)]
  show _ + _ * (l[k] + 4294967296 * 0) = _
  rw [show l[k] + 4294967296 * 0 = l[k] by omega]
theorem natV_take_le {l : List Int} (hl : ∀ x ∈ l, Limb x) (k : Nat) : natV (l.take k) ≤ natV l := by
  have e : natV l = natV (l.take k ++ l.drop k) := by rw [List.take_append_drop]
  rw [e, natV_append]
  have h := natV_nonneg (l := l.drop k) (fun x hx => hl x (List.mem_of_mem_drop hx))
  have := Int.mul_nonneg (Int.le_of_lt (pw_pos (32 * ((l.take k).length : Int)))) h
  omega
theorem limbs_take {l : List Int} (hl : ∀ x ∈ l, Limb x) (k : Nat) : ∀ x ∈ l.take k, Limb x := fun x hx => hl x (List.mem_of_mem_take hx)
/-- Where the rest is zeros, the head is the number. -/
theorem natV_core {l : List Int} {k : Nat} (h : ∀ i : Nat, k ≤ i → (hi : i < l.length) → l[i] = 0) : natV (l.take k) = natV l := by
  have e : natV l = natV (l.take k ++ l.drop k) := by rw [List.take_append_drop]
  rw [e, natV_append, natV_zeros (l.drop k), Int.mul_zero, Int.add_zero]
  intro x hx
  obtain ⟨i, hi, rfl⟩ := List.getElem_of_mem hx
  rw [List.getElem_drop]
  exact h _ (by omega) _

/-! ### Right lists -/
/-- No zero at the end. -/
def Norm (l : List Int) : Prop := ∀ j : Nat, (h : j < l.length) → j + 1 = l.length → l[j] ≠ 0
theorem norm_nil : Norm [] := fun j h _ => by simp at h
theorem norm_tail {x : Int} {r : List Int} (h : Norm (x :: r)) : Norm r := fun j hj e => by
  have := h (j + 1) (by simp; omega) (by simp; omega)
  simpa using this
theorem natV_pos : ∀ {l : List Int}, (∀ x ∈ l, Limb x) → Norm l → l ≠ [] → 0 < natV l
  | [], _, _, h => absurd rfl h
  | x :: r, hl, hn, _ => by
    have hx := hl x (by simp)
    have hr := natV_nonneg (l := r) (fun y hy => hl y (by simp [hy]))
    show 0 < x + 4294967296 * natV r
    by_cases c : r = []
    · subst c
      have : x ≠ 0 := by simpa using hn 0 (by simp) (by simp)
      unfold Limb at hx
      show 0 < x + 4294967296 * 0
      omega
    · have := natV_pos (l := r) (fun y hy => hl y (by simp [hy])) (norm_tail hn) c
      unfold Limb at hx
      omega
theorem norm_zero {l : List Int} (hl : ∀ x ∈ l, Limb x) (hn : Norm l) (h : natV l = 0) : l = [] := by
  by_cases c : l = []
  · exact c
  · have := natV_pos hl hn c; omega
/-- A number tells its right list. -/
theorem norm_unique : ∀ {l m : List Int}, (∀ x ∈ l, Limb x) → (∀ x ∈ m, Limb x) → Norm l → Norm m → natV l = natV m → l = m
  | [], m, _, hm, _, nm, e => (norm_zero hm nm e.symm).symm
  | x :: r, [], hl, _, nl, _, e => norm_zero hl nl e
  | x :: r, y :: s, hl, hm, nl, nm, e => by
    have hx := hl x (by simp)
    have hy := hm y (by simp)
    have e' : x + 4294967296 * natV r = y + 4294967296 * natV s := e
    unfold Limb at hx hy
    have exy : x = y := by omega
    have er : natV r = natV s := by omega
    rw [exy, norm_unique (fun z hz => hl z (by simp [hz])) (fun z hz => hm z (by simp [hz])) (norm_tail nl) (norm_tail nm) er]
/-- A right list of n limbs is not below 2^(32(n-1)). -/
theorem norm_ge : ∀ {l : List Int} {k : Nat}, (∀ x ∈ l, Limb x) → Norm l → k < l.length → pw (32 * (k : Int)) ≤ natV l
  | [], k, _, _, h => by simp at h
  | x :: r, 0, hl, hn, _ => by
    have := natV_pos hl hn (by simp)
    rw [show pw (32 * ((0 : Nat) : Int)) = 1 from rfl]; omega
  | x :: r, k + 1, hl, hn, h => by
    have hx := hl x (by simp)
    have := norm_ge (l := r) (k := k) (fun y hy => hl y (by simp [hy])) (norm_tail hn) (by simpa using h)
    rw [pw32]
    show _ ≤ x + 4294967296 * natV r
    unfold Limb at hx; omega
theorem pw_mono {a b : Int} (h0 : 0 ≤ a) (h : a ≤ b) : pw a ≤ pw b := by
  have e := pw_add a (b - a) h0 (by omega)
  rw [show a + (b - a) = b by omega] at e
  rw [e]
  have := Int.mul_le_mul_of_nonneg_left (show 1 ≤ pw (b - a) from pw_pos _) (Int.le_of_lt (pw_pos a))
  omega
theorem pw_inj_le {a b : Int} (hb : 0 ≤ b) (h : pw a < pw b) : a < b := by
  rcases Int.lt_or_le a b with c | c
  · exact c
  · have := pw_mono hb c; omega
theorem norm_len {l : List Int} {k : Nat} (hl : ∀ x ∈ l, Limb x) (hn : Norm l) (h : natV l < pw (32 * (k : Int))) : l.length ≤ k := by
  rcases Nat.lt_or_ge k l.length with c | c
  · have := norm_ge hl hn c; omega
  · exact c
/-- Of two right lists the longer one is greater. -/
theorem norm_lt_of_len {l m : List Int} (hl : ∀ x ∈ l, Limb x) (hm : ∀ x ∈ m, Limb x) (nm : Norm m) (h : l.length < m.length) : natV l < natV m := by
  have a := natV_lt hl
  have b := norm_ge hm nm h
  omega
/-- What is left of a list when the zeros at the end are gone. -/
theorem norm_take {l : List Int} {k : Nat} (hk : k ≤ l.length) (h : k = 0 ∨ ∃ j : Nat, ∃ hj : j < l.length, k = j + 1 ∧ l[j] ≠ 0) : Norm (l.take k) := by
  intro j hj e
  rw [List.length_take, Nat.min_eq_left hk] at e hj
  rcases h with h | ⟨i, hi, rfl, hx⟩
  · omega
  · have : i = j := by omega
    subst this
    rw [List.getElem_take]; exact hx

/-! ### Digits -/
/-- The i-th limb, 0 behind the end. -/
def digV (l : List Int) (i : Nat) : Int := l[i]?.getD 0
theorem digV_lt {l : List Int} {i : Nat} (h : i < l.length) : digV l i = l[i] := by unfold digV; rw [List.getElem?_eq_getElem h]; rfl
theorem digV_ge {l : List Int} {i : Nat} (h : l.length ≤ i) : digV l i = 0 := by unfold digV; rw [List.getElem?_eq_none h]; rfl
theorem digV_limb {l : List Int} (hl : ∀ x ∈ l, Limb x) (i : Nat) : Limb (digV l i) := by
  rcases Nat.lt_or_ge i l.length with c | c
  · rw [digV_lt c]; exact hl _ (List.getElem_mem c)
  · rw [digV_ge c]; exact ⟨by decide, by decide⟩
theorem natV_take_dig (l : List Int) (k : Nat) : natV (l.take (k + 1)) = natV (l.take k) + pw (32 * (k : Int)) * digV l k := by
  rcases Nat.lt_or_ge k l.length with c | c
  · rw [natV_take_succ c, digV_lt c]
  · rw [digV_ge c, List.take_of_length_le (by omega), List.take_of_length_le c]; omega
theorem natV_take_all {l : List Int} {k : Nat} (h : l.length ≤ k) : natV (l.take k) = natV l := by rw [List.take_of_length_le h]
theorem natV_split (l : List Int) (k : Nat) (h : k ≤ l.length) : natV l = natV (l.take k) + pw (32 * (k : Int)) * natV (l.drop k) := by
  have e : natV l = natV (l.take k ++ l.drop k) := by rw [List.take_append_drop]
  rw [e, natV_append, List.length_take, Nat.min_eq_left h]
theorem limbs_drop {l : List Int} (hl : ∀ x ∈ l, Limb x) (k : Nat) : ∀ x ∈ l.drop k, Limb x := fun x hx => hl x (List.mem_of_mem_drop hx)
theorem natV_take_lt {l : List Int} (hl : ∀ x ∈ l, Limb x) (k : Nat) : natV (l.take k) < pw (32 * (k : Int)) := by
  have := natV_lt (limbs_take hl k)
  have m := pw_mono (a := 32 * ((l.take k).length : Int)) (b := 32 * (k : Int)) (by omega) (by have := List.length_take_le k l; omega)
  omega
/-- A limb is a digit of the number. -/
theorem natV_dig {l : List Int} (hl : ∀ x ∈ l, Limb x) (i : Nat) : natV l / pw (32 * (i : Int)) % 4294967296 = digV l i := by
  rcases Nat.lt_or_ge i l.length with c | c
  · have e := natV_split l (i + 1) (by omega)
    rw [natV_take_succ c, pw32] at e
    have a := natV_take_lt hl i
    have a0 := natV_nonneg (limbs_take hl i)
    have hx := hl l[i] (List.getElem_mem c)
    have hp := pw_pos (32 * (i : Int))
    rw [digV_lt c]
    generalize pw (32 * (i : Int)) = p at *
    generalize natV (l.take i) = t at *
    generalize natV (l.drop (i + 1)) = d at *
    generalize l[i] = x at *
    rw [e, show t + p * x + 4294967296 * p * d = t + p * (x + 4294967296 * d) by rw [Int.mul_add, Int.mul_left_comm p 4294967296 d, Int.mul_assoc]; omega]
    rw [Int.add_mul_ediv_left _ _ (by omega), Int.ediv_eq_zero_of_lt a0 a]
    unfold Limb at hx; omega
  · have a := natV_lt hl
    have m := pw_mono (a := 32 * (l.length : Int)) (b := 32 * (i : Int)) (by omega) (by omega)
    rw [digV_ge c, Int.ediv_eq_zero_of_lt (natV_nonneg hl) (by omega)]; rfl
theorem natV_set : ∀ {l : List Int} {i : Nat} (x : Int) (h : i < l.length), natV (l.set i x) = natV l + pw (32 * (i : Int)) * (x - l[i])
  | [], i, x, h => by simp at h
  | y :: r, 0, x, _ => by
    show x + 4294967296 * natV r = y + 4294967296 * natV r + 1 * (x - y)
    omega
  | y :: r, i + 1, x, h => by
    have := natV_set (l := r) (i := i) x (by simpa using h)
    show y + 4294967296 * natV (r.set i x) = y + 4294967296 * natV r + _
    rw [this, pw32, Int.mul_add, Int.mul_assoc]
    simp only [List.getElem_cons_succ]
    omega
theorem limbs_set {l : List Int} (hl : ∀ x ∈ l, Limb x) (i : Nat) {x : Int} (hx : Limb x) : ∀ y ∈ l.set i x, Limb y := fun y hy => by
  rcases List.mem_or_eq_of_mem_set hy with h | h
  · exact hl y h
  · subst h; exact hx
theorem limbs_snoc {l : List Int} (hl : ∀ x ∈ l, Limb x) {x : Int} (hx : Limb x) : ∀ y ∈ l ++ [x], Limb y := fun y hy => by
  rcases List.mem_append.1 hy with h | h
  · exact hl y h
  · simp at h; subst h; exact hx
theorem natV_snoc (l : List Int) (x : Int) : natV (l ++ [x]) = natV l + pw (32 * (l.length : Int)) * x := by
  rw [natV_append]; show _ + _ * (x + 4294967296 * 0) = _; rw [show x + 4294967296 * 0 = x by omega]
theorem natV_rep (k : Nat) : natV (List.replicate k 0) = 0 := natV_zeros _ (fun _ hx => (List.mem_replicate.1 hx).2)
theorem limbs_rep (k : Nat) : ∀ x ∈ List.replicate k (0 : Int), Limb x := fun x hx => by rw [(List.mem_replicate.1 hx).2]; exact ⟨by decide, by decide⟩
end Go.Proofs.Ytomeidbigofnaaa
