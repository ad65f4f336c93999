import Derived.Test.YtmjidpkddiinaaaDoorX0
import Derived.Laws.OwnMore
import Derived.Laws.AppendOwnNone
import Derived.OwnWalk
import Derived.Deep.AppendLies
import Derived.Deep.DeepCutAuto
import Derived.Deep.CutBlock
import Derived.LoopTactic
/-
  Lists of limbs of 32 bits: the number that a list means; right lists; digits.
-/
namespace Go.Proofs.YtmjidpkddiinaaaDoor
open Go.RowKit Go.Shelf

/-- A comparison's answer. -/
def cmpI (a b : Int) : Int := if a < b then -1 else if a = b then 0 else 1
theorem cmpI_le (a b : Int) : cmpI a b ≤ 0 ↔ a ≤ b := by unfold cmpI; split <;> (try split) <;> omega

/-- A limb. -/
def Limb (x : Int) : Prop := 0 ≤ x ∧ x < 4294967296
/-- The number of a list, the lowest limb first. -/
def natV : List Int → Int
  | [] => 0
  | x :: r => x + 4294967296 * natV r
theorem natV_nonneg : ∀ {l : List Int}, (∀ x ∈ l, Limb x) → 0 ≤ natV l
  | [], _ => Int.le_refl _
  | x :: r, h => by
    have h1 := h x (by simp)
    have h2 := natV_nonneg (l := r) (fun y hy => h y (by simp [hy]))
    show 0 ≤ x + 4294967296 * natV r
    unfold Limb at h1; omega
theorem pw32 (k : Nat) : pw (32 * ((k + 1 : Nat) : Int)) = 4294967296 * pw (32 * (k : Int)) := by
  rw [show 32 * ((k + 1 : Nat) : Int) = 32 + 32 * (k : Int) by omega, pw_add 32 _ (by decide) (by omega)]; rfl
theorem natV_lt : ∀ {l : List Int}, (∀ x ∈ l, Limb x) → natV l < pw (32 * (l.length : Int))
  | [], _ => by decide
  | x :: r, h => by
    have h1 := h x (by simp)
    have h2 := natV_lt (l := r) (fun y hy => h y (by simp [hy]))
    rw [List.length_cons, pw32]
    show x + 4294967296 * natV r < _
    unfold Limb at h1; omega
theorem natV_append : ∀ (l m : List Int), natV (l ++ m) = natV l + pw (32 * (l.length : Int)) * natV m
  | [], m => by rw [List.nil_append, show pw (32 * (([] : List Int).length : Int)) = 1 from rfl, show natV [] = 0 from rfl]; omega
  | x :: r, m => by
    rw [List.cons_append, List.length_cons, pw32]
    show x + 4294967296 * natV (r ++ m) = x + 4294967296 * natV r + _
    rw [natV_append r m, Int.mul_add, ← Int.mul_assoc]; omega
theorem natV_zeros : ∀ (l : List Int), (∀ x ∈ l, x = 0) → natV l = 0
  | [], _ => rfl
  | x :: r, h => by
    have := natV_zeros r (fun y hy => h y (by simp [hy]))
    have := h x (by simp)
    show x + 4294967296 * natV r = 0
    omega
theorem natV_take_succ {l : List Int} {k : Nat} (h : k < l.length) : natV (l.take (k + 1)) = natV (l.take k) + pw (32 * (k : Int)) * l[k] := by
  rw [List.take_succ_eq_append_getElem h, natV_append]
  rw [List.length_take, Nat.min_eq_left (by omega)]
  show _ + _ * (l[k] + 4294967296 * 0) = _
  rw [show l[k] + 4294967296 * 0 = l[k] by omega]
theorem natV_take_le {l : List Int} (hl : ∀ x ∈ l, Limb x) (k : Nat) : natV (l.take k) ≤ natV l := by
  have e : natV l = natV (l.take k ++ l.drop k) := by rw [List.take_append_drop]
  rw [e, natV_append]
  have h := natV_nonneg (l := l.drop k) (fun x hx => hl x (List.mem_of_mem_drop hx))
  have := Int.mul_nonneg (Int.le_of_lt (pw_pos (32 * ((l.take k).length : Int)))) h
  omega
theorem limbs_take {l : List Int} (hl : ∀ x ∈ l, Limb x) (k : Nat) : ∀ x ∈ l.take k, Limb x := fun x hx => hl x (List.mem_of_mem_take hx)
/-- Where the rest is zeros, the head is the number. -/
theorem natV_core {l : List Int} {k : Nat} (h : ∀ i : Nat, k ≤ i → (hi : i < l.length) → l[i] = 0) : natV (l.take k) = natV l := by
  have e : natV l = natV (l.take k ++ l.drop k) := by rw [List.take_append_drop]
  rw [e, natV_append, natV_zeros (l.drop k), Int.mul_zero, Int.add_zero]
  intro x hx
  obtain ⟨i, hi, rfl⟩ := List.getElem_of_mem hx
  rw [List.getElem_drop]
  exact h _ (by omega) _

/-! ### Right lists -/
/-- No zero at the end. -/
def Norm (l : List Int) : Prop := ∀ j : Nat, (h : j < l.length) → j + 1 = l.length → l[j] ≠ 0
theorem norm_nil : Norm [] := fun j h _ => by simp at h
theorem norm_tail {x : Int} {r : List Int} (h : Norm (x :: r)) : Norm r := fun j hj e => by
  have := h (j + 1) (by simp; omega) (by simp; omega)
  simpa using this
theorem natV_pos : ∀ {l : List Int}, (∀ x ∈ l, Limb x) → Norm l → l ≠ [] → 0 < natV l
  | [], _, _, h => absurd rfl h
  | x :: r, hl, hn, _ => by
    have hx := hl x (by simp)
    have hr := natV_nonneg (l := r) (fun y hy => hl y (by simp [hy]))
    show 0 < x + 4294967296 * natV r
    by_cases c : r = []
    · subst c
      have : x ≠ 0 := by simpa using hn 0 (by simp) (by simp)
      unfold Limb at hx
      show 0 < x + 4294967296 * 0
      omega
    · have := natV_pos (l := r) (fun y hy => hl y (by simp [hy])) (norm_tail hn) c
      unfold Limb at hx
      omega
theorem norm_zero {l : List Int} (hl : ∀ x ∈ l, Limb x) (hn : Norm l) (h : natV l = 0) : l = [] := by
  by_cases c : l = []
  · exact c
  · have := natV_pos hl hn c; omega
/-- A number tells its right list. -/
theorem norm_unique : ∀ {l m : List Int}, (∀ x ∈ l, Limb x) → (∀ x ∈ m, Limb x) → Norm l → Norm m → natV l = natV m → l = m
  | [], m, _, hm, _, nm, e => (norm_zero hm nm e.symm).symm
  | x :: r, [], hl, _, nl, _, e => norm_zero hl nl e
  | x :: r, y :: s, hl, hm, nl, nm, e => by
    have hx := hl x (by simp)
    have hy := hm y (by simp)
    have e' : x + 4294967296 * natV r = y + 4294967296 * natV s := e
    unfold Limb at hx hy
    have exy : x = y := by omega
    have er : natV r = natV s := by omega
    rw [exy, norm_unique (fun z hz => hl z (by simp [hz])) (fun z hz => hm z (by simp [hz])) (norm_tail nl) (norm_tail nm) er]
/-- A right list of n limbs is not below 2^(32(n-1)). -/
theorem norm_ge : ∀ {l : List Int} {k : Nat}, (∀ x ∈ l, Limb x) → Norm l → k < l.length → pw (32 * (k : Int)) ≤ natV l
  | [], k, _, _, h => by simp at h
  | x :: r, 0, hl, hn, _ => by
    have := natV_pos hl hn (by simp)
    rw [show pw (32 * ((0 : Nat) : Int)) = 1 from rfl]; omega
  | x :: r, k + 1, hl, hn, h => by
    have hx := hl x (by simp)
    have := norm_ge (l := r) (k := k) (fun y hy => hl y (by simp [hy])) (norm_tail hn) (by simpa using h)
    rw [pw32]
    show _ ≤ x + 4294967296 * natV r
    unfold Limb at hx; omega
theorem pw_mono {a b : Int} (h0 : 0 ≤ a) (h : a ≤ b) : pw a ≤ pw b := by
  have e := pw_add a (b - a) h0 (by omega)
  rw [show a + (b - a) = b by omega] at e
  rw [e]
  have := Int.mul_le_mul_of_nonneg_left (show 1 ≤ pw (b - a) from pw_pos _) (Int.le_of_lt (pw_pos a))
  omega
theorem pw_inj_le {a b : Int} (hb : 0 ≤ b) (h : pw a < pw b) : a < b := by
  rcases Int.lt_or_le a b with c | c
  · exact c
  · have := pw_mono hb c; omega
theorem norm_len {l : List Int} {k : Nat} (hl : ∀ x ∈ l, Limb x) (hn : Norm l) (h : natV l < pw (32 * (k : Int))) : l.length ≤ k := by
  rcases Nat.lt_or_ge k l.length with c | c
  · have := norm_ge hl hn c; omega
  · exact c
/-- Of two right lists the longer one is greater. -/
theorem norm_lt_of_len {l m : List Int} (hl : ∀ x ∈ l, Limb x) (hm : ∀ x ∈ m, Limb x) (nm : Norm m) (h : l.length < m.length) : natV l < natV m := by
  have a := natV_lt hl
  have b := norm_ge hm nm h
  omega
/-- What is left of a list when the zeros at the end are gone. -/
theorem norm_take {l : List Int} {k : Nat} (hk : k ≤ l.length) (h : k = 0 ∨ ∃ j : Nat, ∃ hj : j < l.length, k = j + 1 ∧ l[j] ≠ 0) : Norm (l.take k) := by
  intro j hj e
  rw [List.length_take, Nat.min_eq_left hk] at e hj
  rcases h with h | ⟨i, hi, rfl, hx⟩
  · omega
  · have : i = j := by omega
    subst this
    rw [List.getElem_take]; exact hx

/-! ### Digits -/
/-- The i-th limb, 0 behind the end. -/
def digV (l : List Int) (i : Nat) : Int := l[i]?.getD 0
theorem digV_lt {l : List Int} {i : Nat} (h : i < l.length) : digV l i = l[i] := by unfold digV; rw [List.getElem?_eq_getElem h]; rfl
theorem digV_ge {l : List Int} {i : Nat} (h : l.length ≤ i) : digV l i = 0 := by unfold digV; rw [List.getElem?_eq_none h]; rfl
theorem digV_limb {l : List Int} (hl : ∀ x ∈ l, Limb x) (i : Nat) : Limb (digV l i) := by
  rcases Nat.lt_or_ge i l.length with c | c
  · rw [digV_lt c]; exact hl _ (List.getElem_mem c)
  · rw [digV_ge c]; exact ⟨by decide, by decide⟩
theorem natV_take_dig (l : List Int) (k : Nat) : natV (l.take (k + 1)) = natV (l.take k) + pw (32 * (k : Int)) * digV l k := by
  rcases Nat.lt_or_ge k l.length with c | c
  · rw [natV_take_succ c, digV_lt c]
  · rw [digV_ge c, List.take_of_length_le (by omega), List.take_of_length_le c]; omega
theorem natV_take_all {l : List Int} {k : Nat} (h : l.length ≤ k) : natV (l.take k) = natV l := by rw [List.take_of_length_le h]
theorem natV_split (l : List Int) (k : Nat) (h : k ≤ l.length) : natV l = natV (l.take k) + pw (32 * (k : Int)) * natV (l.drop k) := by
  have e : natV l = natV (l.take k ++ l.drop k) := by rw [List.take_append_drop]
  rw [e, natV_append, List.length_take, Nat.min_eq_left h]
theorem limbs_drop {l : List Int} (hl : ∀ x ∈ l, Limb x) (k : Nat) : ∀ x ∈ l.drop k, Limb x := fun x hx => hl x (List.mem_of_mem_drop hx)
theorem natV_take_lt {l : List Int} (hl : ∀ x ∈ l, Limb x) (k : Nat) : natV (l.take k) < pw (32 * (k : Int)) := by
  have := natV_lt (limbs_take hl k)
  have m := pw_mono (a := 32 * ((l.take k).length : Int)) (b := 32 * (k : Int)) (by omega) (by have := List.length_take_le k l; omega)
  omega
/-- A limb is a digit of the number. -/
theorem natV_dig {l : List Int} (hl : ∀ x ∈ l, Limb x) (i : Nat) : natV l / pw (32 * (i : Int)) % 4294967296 = digV l i := by
  rcases Nat.lt_or_ge i l.length with c | c
  · have e := natV_split l (i + 1) (by omega)
    rw [natV_take_succ c, pw32] at e
    have a := natV_take_lt hl i
    have a0 := natV_nonneg (limbs_take hl i)
    have hx := hl l[i] (List.getElem_mem c)
    have hp := pw_pos (32 * (i : Int))
    rw [digV_lt c]
    generalize pw (32 * (i : Int)) = p at *
    generalize natV (l.take i) = t at *
    generalize natV (l.drop (i + 1)) = d at *
    generalize l[i] = x at *
    rw [e, show t + p * x + 4294967296 * p * d = t + p * (x + 4294967296 * d) by rw [Int.mul_add, Int.mul_left_comm p 4294967296 d, Int.mul_assoc]; omega]
    rw [Int.add_mul_ediv_left _ _ (by omega), Int.ediv_eq_zero_of_lt a0 a]
    unfold Limb at hx; omega
  · have a := natV_lt hl
    have m := pw_mono (a := 32 * (l.length : Int)) (b := 32 * (i : Int)) (by omega) (by omega)
    rw [digV_ge c, Int.ediv_eq_zero_of_lt (natV_nonneg hl) (by omega)]; rfl
theorem natV_set : ∀ {l : List Int} {i : Nat} (x : Int) (h : i < l.length), natV (l.set i x) = natV l + pw (32 * (i : Int)) * (x - l[i])
  | [], i, x, h => by simp at h
  | y :: r, 0, x, _ => by
    show x + 4294967296 * natV r = y + 4294967296 * natV r + 1 * (x - y)
    omega
  | y :: r, i + 1, x, h => by
    have := natV_set (l := r) (i := i) x (by simpa using h)
    show y + 4294967296 * natV (r.set i x) = y + 4294967296 * natV r + _
    rw [this, pw32, Int.mul_add, Int.mul_assoc]
    simp only [List.getElem_cons_succ]
    omega
theorem limbs_set {l : List Int} (hl : ∀ x ∈ l, Limb x) (i : Nat) {x : Int} (hx : Limb x) : ∀ y ∈ l.set i x, Limb y := fun y hy => by
  rcases List.mem_or_eq_of_mem_set hy with h | h
  · exact hl y h
  · subst h; exact hx
theorem limbs_snoc {l : List Int} (hl : ∀ x ∈ l, Limb x) {x : Int} (hx : Limb x) : ∀ y ∈ l ++ [x], Limb y := fun y hy => by
  rcases List.mem_append.1 hy with h | h
  · exact hl y h
  · simp at h; subst h; exact hx
theorem natV_snoc (l : List Int) (x : Int) : natV (l ++ [x]) = natV l + pw (32 * (l.length : Int)) * x := by
  rw [natV_append]; show _ + _ * (x + 4294967296 * 0) = _; rw [show x + 4294967296 * 0 = x by omega]
theorem natV_rep (k : Nat) : natV (List.replicate k 0) = 0 := natV_zeros _ (fun _ hx => (List.mem_replicate.1 hx).2)
theorem limbs_rep (k : Nat) : ∀ x ∈ List.replicate k (0 : Int), Limb x := fun x hx => by rw [(List.mem_replicate.1 hx).2]; exact ⟨by decide, by decide⟩
end Go.Proofs.YtmjidpkddiinaaaDoor

/-
  The document's naturals (tabardref1): slices of limbs; Trim, limb, Bit.
-/
namespace Go.Proofs.YtmjidpkddiinaaaDoor
open Go.RowKit Go.Shelf

theorem Tryd.info71 : (Tryd.prog.info? 66).map (fun i => (i.zero, i.size, i.bytes)) = some (some (.int .u32 0), 1, 4) := by kernel_rfl

/-- A slice's value is the list of limbs; its cells lie below block B. -/
structure Sl (w : World) (B : Nat) (A : Option Addr) (n c : Nat) (l : List Int) : Prop where
  len : l.length = n
  cap : n ≤ c
  max : c ≤ maxLen
  lim : ∀ x ∈ l, Limb x
  nil : A = none → n = 0 ∧ c = 0
  rd : n = 0 ∨ ∃ b o, A = some ⟨b, o, none⟩ ∧ b < B ∧ ∀ i : Nat, (h : i < l.length) → w.cell? ⟨b, o + i, none⟩ = some (.int .u32 l[i])
theorem Sl.keep {w w' : World} {B : Nat} {A : Option Addr} {n c : Nat} {l : List Int} (h : Sl w B A n c l) (hk : ∀ b o, b < B → w'.cell? ⟨b, o, none⟩ = w.cell? ⟨b, o, none⟩) : Sl w' B A n c l :=
  ⟨h.len, h.cap, h.max, h.lim, h.nil, by
    rcases h.rd with h0 | ⟨b, o, hA, hb, hc⟩
    · exact .inl h0
    · exact .inr ⟨b, o, hA, hb, fun i hi => by rw [hk _ _ hb]; exact hc i hi⟩⟩
theorem Sl.below {w w' : World} {B : Nat} {A : Option Addr} {n c : Nat} {l : List Int} (h : Sl w B A n c l) (hb : Below B w w') : Sl w' B A n c l := h.keep fun b o hlt => hb.cell (p := ⟨b, o, none⟩) hlt
theorem Sl.more {w : World} {B B' : Nat} {A : Option Addr} {n c : Nat} {l : List Int} (h : Sl w B A n c l) (hB : B ≤ B') : Sl w B' A n c l :=
  ⟨h.len, h.cap, h.max, h.lim, h.nil, by
    rcases h.rd with h0 | ⟨b, o, hA, hb, hc⟩
    · exact .inl h0
    · exact .inr ⟨b, o, hA, by omega, hc⟩⟩
/-- The same slice in a later world, over that world's own heap. -/
theorem Sl.on {w w' : World} {A : Option Addr} {n c : Nat} {l : List Int} (h : Sl w w.heap.size A n c l) (hb : Below w.heap.size w w') : Sl w' w'.heap.size A n c l := (h.below hb).more hb.size
theorem Sl.nil_ (w : World) (B : Nat) : Sl w B none 0 0 [] := ⟨rfl, by omega, by simp [maxLen], by simp, fun _ => ⟨rfl, rfl⟩, .inl rfl⟩
/-- The slice lies in a block from B on. -/
def Fresh (B : Nat) (A : Option Addr) : Prop := ∀ ad, A = some ad → B ≤ ad.block
theorem Fresh.mono {B B' : Nat} {A : Option Addr} (h : Fresh B A) (hB : B' ≤ B) : Fresh B' A := fun ad e => Nat.le_trans hB (h ad e)
/-- A row of the call's own is such a slice. -/
theorem Sl.of_own {w : World} {base : Nat} {v : Value} {n : Nat} {l : List Int} (h : w.ownsRow base 66 1 v n (l.map (Value.int .u32))) (hl : ∀ x ∈ l, Limb x) :
    ∃ A c, v = .slice A n c ∧ Sl w w.heap.size A n c l ∧ Fresh base A := by
  have hn : l.length = n := by have := h.1; simpa using this
  rcases h.2 with ⟨rfl, rfl⟩ | ⟨g, cap, cur, rfl, hb, hh, h1, h2, h3, h4⟩
  · obtain rfl : l = [] := List.eq_nil_of_length_eq_zero hn
    exact ⟨none, 0, rfl, Sl.nil_ _ _, fun _ e => by cases e⟩
  · refine ⟨some ⟨g, 0, none⟩, cap, rfl, ⟨hn, h1, h2, hl, (fun e => by cases e), .inr ⟨g, 0, rfl, ?_, fun i hi => ?_⟩⟩, fun ad e => by cases e; exact hb⟩
    · rcases Nat.lt_or_ge g w.heap.size with hlt | hge
      · exact hlt
      · rw [Array.getElem?_eq_none hge] at hh; cases hh
    · have := h.cellAt i (by omega)
      rw [Nat.zero_add, this]
      simp [hi]

/-- What a function answers that makes the natural v: a right list of its limbs, in new memory. -/
def NatPost (v : Int) (w : World) (e : Ending) (w' : World) : Prop :=
  ∃ A n c l, e = .returned (.slice A n c) ∧ Sl w' w'.heap.size A n c l ∧ Norm l ∧ natV l = v ∧ Fresh w.heap.size A ∧ Below w.heap.size w w'

theorem u32_oneCell (l : List Int) : ∀ u ∈ l.map (Value.int .u32), u.oneCell' = true := fun u hu => by
  obtain ⟨x, _, rfl⟩ := List.mem_map.1 hu
  rfl

/-- The document's append of limbs onto a row of the call's own: what it leaves. -/
theorem wpList_app {w : World} {ops : Array Oper} {rest : List Oper} {o : Oper} {a : Act} {Q : Exit → Act → World → Prop} (hgd : o.guard = none) (s x : Operand)
    (ho : o.op = .call { callee := .builtin .append, args := #[s, x], argTypes := #[22, 22] })
    (base : Nat) (v : Value) (n : Nat) (l : List Int) (hown : w.ownsRow base 66 1 v n (l.map (Value.int .u32))) (hs : a.eval s = v)
    (ad : Addr) (m c : Nat) (news : List Int) (hx : a.eval x = .slice (some ad) m c) (hl : news.length = m) (hnews : ∀ i : Nat, (h : i < news.length) → w.cell? (ad.add i) = some (.int .u32 news[i]))
    (hb : n + m ≤ 2000000000) (hbase : base ≤ w.heap.size)
    (h : ∀ v' w', w'.ownsRow base 66 1 v' (n + m) ((l ++ news).map (Value.int .u32)) → Below base w w' → wpList Tryd.prog ops Q rest (a.put o.dst v') w') : wpList Tryd.prog ops Q (o :: rest) a w := by
  obtain ⟨i0, hi, hz0, hz1, hz2⟩ := info_parts Tryd.info71
  refine wpList_append_own _ hgd s x 22 ho base 66 i0 (.int .u32 0) 1 4 Tryd.underlying22 hi hz0 hz1 hz2 rfl (by decide) v n _ hs hown ad m c (news.map (Value.int .u32)) hx (by simpa using hl) ?_ (u32_oneCell _) (by unfold maxLen; omega) (by omega) hbase ?_
  · intro j u hu
    obtain ⟨hj, rfl⟩ := List.getElem?_eq_some_iff.1 hu
    simp at hj
    rw [hnews j hj]; simp
  · intro v' w' h1 h2 _
    refine h v' w' (by rw [List.map_append]; exact h1) ?_
    exact (Below.refl _ _).grown h2 hbase (fun k hk => (hown.lt k hk).1)
/-- One limb more, of a literal of one. -/
theorem wpList_app1 {w : World} {ops : Array Oper} {rest : List Oper} {o : Oper} {a : Act} {Q : Exit → Act → World → Prop} (hgd : o.guard = none) (s x : Operand)
    (ho : o.op = .call { callee := .builtin .append, args := #[s, x], argTypes := #[22, 22] })
    (base : Nat) (v : Value) (n : Nat) (l : List Int) (y : Int) (hown : w.ownsRow base 66 1 v n (l.map (Value.int .u32))) (hs : a.eval s = v)
    (hx : a.eval x = .slice (some ⟨w.heap.size, 0, none⟩) 1 1) (hb : n + 1 ≤ 2000000000) (hbase : base ≤ w.heap.size)
    (h : ∀ v' w', w'.ownsRow base 66 1 v' (n + 1) ((l ++ [y]).map (Value.int .u32)) → Below base w w' → wpList Tryd.prog ops Q rest (a.put o.dst v') w') : wpList Tryd.prog ops Q (o :: rest) a (w.alloc (.cells #[.int .u32 y] 66)) := by
  have h1 : Below base w (w.alloc (.cells #[.int .u32 y] 66)) := (Below.refl _ _).alloc hbase _
  refine wpList_app hgd s x ho base v n l (hown.alloc _) hs _ 1 1 [y] hx rfl ?_ hb (by simp; omega) fun v' w' h2 h3 => h v' w' h2 (h1.trans h3)
  intro i hi
  have : i = 0 := by simpa using hi
  subst this
  rw [Addr.add_lit, World.cell?_alloc_at _ _ _ _ rfl]; rfl

/-- What lies behind the call's own append of the first k limbs. -/
theorem trim_end {w w1 : World} {l : List Int} {k : Nat} {v : Value} (hl : ∀ x ∈ l, Limb x) (hk : k ≤ l.length) (hz : ∀ i : Nat, k ≤ i → (hi : i < l.length) → l[i] = 0) (hx : k = 0 ∨ ∃ j : Nat, ∃ hj : j < l.length, k = j + 1 ∧ l[j] ≠ 0)
    (hown : w1.ownsRow w.heap.size 66 1 v (0 + k) (([] ++ l.take k).map (Value.int .u32))) (hb : Below w.heap.size w w1) : NatPost (natV l) w (.returned v) w1 := by
  rw [Nat.zero_add, List.nil_append] at hown
  obtain ⟨A, c, rfl, hs, fr⟩ := Sl.of_own hown (limbs_take hl k)
  exact ⟨A, k, c, l.take k, rfl, hs, norm_take hk hx, natV_core hz, fr, hb⟩
theorem empty_own (w : World) : (w.alloc (.cells #[] 66)).ownsRow w.heap.size 66 1 (.slice (some ⟨w.heap.size, 0, none⟩) 0 0) 0 (([] : List Int).map (Value.int .u32)) :=
  World.ownsRow_lit w #[] 0 (Nat.le_refl _) (by simp [maxLen]) rfl

set_option maxHeartbeats 1000000 in
theorem rtrim_any (A : Option Addr) (n c : Nat) (l : List Int) (w : World) (h : Sl w w.heap.size A n c l) (hn : n ≤ 1000000000) :
    Calls Tryd.prog 14 #[.slice A n c] w (NatPost (natV l) w) := by
  obtain ⟨hlen, hcap, hmax, hlim, hnil, hrd⟩ := h
  have HL := Lib.hid hlim
  unfold maxLen at hmax
  have HE := Lib.hid (fun (k : Nat) (v : Value) (w1 : World) hk hz hx => @trim_end w w1 l k v hlim hk hz hx)
  have b1 : Below w.heap.size w (w.alloc (.cells #[] 66)) := (Below.refl _ _).alloc (Nat.le_refl _) _
  have B1 := Lib.hid b1; clear b1 hlim
  rcases hrd with h0 | ⟨b, o, rfl, hb, hc⟩
  · subst h0
    have fin := Lib.hid (fun (v : Value) (w1 : World) => HE.out 0 v w1 (by omega) (fun i _ hi => by omega) (.inl rfl))
    have fin2 := Lib.hid (show NatPost (natV l) w (.returned (.slice (some ⟨w.heap.size, 0, none⟩) 0 0)) (w.alloc (.cells #[] 66)) from fin.out _ _ (empty_own w) B1.out)
    clear hlen HE fin
    rcases A with _ | ad
    · obtain ⟨_, rfl⟩ := hnil rfl
      clear hnil
      go_enter Tryd.func14, Tryd.ntmps14
      go_wp2
      refine wp_loop_rounds 1 ?_
      rw [rounds_succ]
      go_wp2
      go_ret
      exact fin2.out
    · clear hnil
      have hk0 : (0 : Int) ≤ (c : Int) := by omega
      go_enter Tryd.func14, Tryd.ntmps14
      go_wp2
      refine wp_loop_rounds 1 ?_
      rw [rounds_succ]
      go_wp2
      go_ret
      exact fin2.out
  · have HC := Lib.hid hc
    subst hlen
    clear hc hnil
    go_enter Tryd.func14, Tryd.ntmps14
    go_wp2
    go_loopw [3] (fun n wr => ∃ k : Nat, k ≤ l.length ∧ n = .int .i64 (k : Int) ∧ Hid (∀ i : Nat, k ≤ i → (hi : i < l.length) → l[i] = 0) ∧ w = wr) (fun n _ => (intOf n).toNat)
    case atStart => exact ⟨l.length, Nat.le_refl _, rfl, fun i h1 h2 => by omega, rfl⟩
    case round =>
      obtain ⟨k, hk, rfl, hz, rfl⟩ := hrel
      have hkc : (k : Int) ≤ (c : Int) := by omega
      cases k with
      | zero =>
        have hk0 : (0 : Int) ≤ (c : Int) := by omega
        have fin := Lib.hid (fun (v : Value) (w1 : World) => HE.out 0 v w1 (by omega) hz.out (.inl rfl))
        clear HC hz hkc hk HE
        go_wp2
        go_ret
        exact fin.out _ _ (empty_own w) B1.out
      | succ j =>
        have hj : j < l.length := by omega
        have cell : w.cell? ⟨b, o + j, none⟩ = some (.int .u32 l[j]) := HC.out j hj
        have jl : (j : Int) < (l.length : Int) := by omega
        have hj0 : (0 : Int) < (j : Int) + 1 := by omega
        have ej : ((j + 1 : Nat) : Int) = (j : Int) + 1 := by omega
        have hkc2 : (j : Int) + 1 ≤ (c : Int) := by omega
        by_cases hx : l[j] = 0
        · have hz2 : Hid (∀ i : Nat, j ≤ i → (hi : i < l.length) → l[i] = 0) := fun i h1 h2 => by
            rcases Nat.eq_or_lt_of_le h1 with e | e
            · subst e; exact hx
            · exact hz.out i (by omega) h2
          rw [hx] at cell
          clear hx HC hz HE
          go_wp2
          go_roundw
          case rel => exact ⟨j, by omega, by go_num, hz2, by first | trivial | rfl⟩
          case measure => simp [intOf]
        · have fin := Lib.hid (fun (v : Value) (w1 : World) => HE.out (j + 1) v w1 (by omega) hz.out (.inr ⟨j, hj, rfl, hx⟩))
          have hxb : (l[j] == 0) = false := by simpa using hx
          have HN : Hid (∀ i : Nat, (h : i < (l.take (j + 1)).length) → (w.alloc (.cells #[] 66)).cell? ((⟨b, o, none⟩ : Addr).add i) = some (.int .u32 (l.take (j + 1))[i])) := fun i hi => by
            rw [Addr.add_lit, B1.out.cell (p := ⟨b, o + i, none⟩) hb]
            simp at hi
            rw [HC.out i (by omega)]; simp
          have HM := Lib.hid (show (l.take (j + 1)).length = j + 1 by simp; omega)
          generalize l[j] = x at *
          clear HC hz HE
          go_wp2_with (at_builtin; refine wpList_app rfl _ _ rfl w.heap.size _ 0 [] (empty_own w) rfl ⟨b, o, none⟩ (j + 1) c (l.take (j + 1)) rfl HM.out HN.out (by omega) (by simp) ?_; intro v1 w1 hown hb1)
          go_ret
          exact fin.out _ _ hown (B1.out.trans hb1)

set_option maxHeartbeats 400000 in
theorem limb_any (A : Option Addr) (n c : Nat) (l : List Int) (k : Nat) (w : World) (h : Sl w w.heap.size A n c l) (hk : (k : Int) ≤ 9223372036854775807) :
    Calls Tryd.prog 63 #[.slice A n c, .int .i64 (k : Int)] w fun e w' => e = .returned (.int .u64 (digV l k)) ∧ w = w' := by
  obtain ⟨hlen, hcap, hmax, hlim, hnil, hrd⟩ := h
  unfold maxLen at hmax
  by_cases c1 : k < n
  · rcases hrd with h0 | ⟨b, o, rfl, hb, hc⟩
    · omega
    · have cell : w.cell? ⟨b, o + k, none⟩ = some (.int .u32 l[k]) := hc k (by omega)
      have e := digV_lt (l := l) (i := k) (by omega)
      obtain ⟨x0, x1⟩ := digV_limb hlim k
      rw [← e] at cell
      generalize digV l k = x at *
      have hlt : (k : Int) < (n : Int) := by omega
      clear hc hnil hlim hlen e
      go_enter Tryd.func63, Tryd.ntmps63
      go_wp2
      go_ret
      exact ⟨rfl, rfl⟩
  · have e := digV_ge (l := l) (i := k) (by omega)
    have hlt : (n : Int) ≤ (k : Int) := by omega
    rw [e]
    clear e hnil hrd hlim hlen
    go_enter Tryd.func63, Tryd.ntmps63
    go_wp2
    go_ret
    exact ⟨rfl, rfl⟩
theorem limb_at (A : Option Addr) (n c : Nat) (l : List Int) (k d : Int) (w : World) (h : Sl w w.heap.size A n c l) (h0 : 0 ≤ k) (hk : k ≤ 9223372036854775807) (hd : digV l k.toNat = d) :
    Calls Tryd.prog 63 #[.slice A n c, .int .i64 k] w fun e w' => e = .returned (.int .u64 d) ∧ w = w' := by
  obtain ⟨k, rfl⟩ := Int.eq_ofNat_of_zero_le h0
  subst hd
  exact limb_any A n c l k w h hk

/-- The k-th bit of a number. -/
def bitV (v k : Int) : Bool := decide (v / pw k % 2 = 1)
theorem bit_dig {l : List Int} (hl : ∀ x ∈ l, Limb x) (k : Int) (h0 : 0 ≤ k) : bitV (natV l) k = (digV l (k / 32).toNat / pw (k % 32) % 2 == 1) := by
  have e : pw k = pw (32 * ((k / 32).toNat : Int)) * pw (k % 32) := by rw [← pw_add _ _ (by omega) (by omega)]; congr 1; omega
  have d := natV_dig hl (k / 32).toNat
  have hp := pw_pos (32 * ((k / 32).toNat : Int))
  have hj := pw_pos (k % 32)
  have e2 : (4294967296 : Int) = pw (k % 32) * (2 * pw (31 - k % 32)) := by
    have a := pw_add (k % 32) (31 - k % 32) (by omega) (by omega)
    rw [show k % 32 + (31 - k % 32) = 31 by omega, show pw 31 = 2147483648 from rfl] at a
    rw [Int.mul_left_comm, ← a]; rfl
  unfold bitV
  rw [e, ← Int.ediv_ediv_of_nonneg (Int.le_of_lt hp)]
  generalize natV l / pw (32 * ((k / 32).toNat : Int)) = q at *
  rw [← d]
  generalize pw (k % 32) = p at *
  generalize pw (31 - k % 32) = t at *
  have : q / p % 2 = q % 4294967296 / p % 2 := by
    have a := Int.mul_ediv_add_emod q 4294967296
    generalize q / 4294967296 = u at *
    generalize q % 4294967296 = r at *
    subst a
    rw [e2, show p * (2 * t) * u + r = r + p * (2 * (t * u)) by rw [Int.mul_assoc, Int.mul_assoc 2 t u]; omega, Int.add_mul_ediv_left _ _ (by omega)]
    omega
  rw [this]
  by_cases c : q % 4294967296 / p % 2 = 1 <;> simp [c]
set_option maxHeartbeats 400000 in
theorem bit_any (A : Option Addr) (n c : Nat) (l : List Int) (k : Int) (w : World) (h : Sl w w.heap.size A n c l) (h0 : 0 ≤ k) (hk : k ≤ 9223372036854775807) :
    Calls Tryd.prog 59 #[.slice A n c, .int .i64 k] w fun e w' => e = .returned (.bool (bitV (natV l) k)) ∧ w = w' := by
  obtain ⟨d, hd⟩ : ∃ d, digV l (k / 32).toNat = d := ⟨_, rfl⟩
  have HC := Lib.hid (limb_at A n c l (k / 32) d w h (by omega) (by omega) hd)
  have hw : Limb d := by rw [← hd]; exact digV_limb h.lim _
  have hb := bit_dig h.lim k h0
  rw [hd] at hb
  have hx : d / 2 ^ (k % 32).toNat = d / pw (k % 32) := by rw [pw_eq]
  have hx0 : 0 ≤ d / pw (k % 32) := Int.ediv_nonneg hw.1 (Int.le_of_lt (pw_pos _))
  generalize d / pw (k % 32) = x at *
  obtain ⟨d0, d1⟩ := hw
  have m0 : 0 ≤ k % 32 := by omega
  have HB := Lib.hid hb
  clear hb hd h
  go_enter Tryd.func59, Tryd.ntmps59
  go_wp2_with fail
  refine HC.out.mono ?_
  rintro e w' ⟨rfl, rfl⟩
  go_wp2
  go_ret
  exact ⟨by rw [HB.out]; rfl, rfl⟩
end Go.Proofs.YtmjidpkddiinaaaDoor

/-
  The document's naturals: Len, Cmp.
-/
namespace Go.Proofs.YtmjidpkddiinaaaDoor
open Go.RowKit Go.Shelf

theorem NatPost.on {v v' : Int} {w w1 : World} {e : Ending} {w2 : World} (h : NatPost v w1 e w2) (hb : Below w.heap.size w w1) (hv : v = v') : NatPost v' w e w2 := by
  obtain ⟨A, n, c, l, rfl, hs, hn, rfl, fr, hb2⟩ := h
  exact ⟨A, n, c, l, rfl, hs, hn, hv, fr.mono hb.size, hb.trans (hb2.mono hb.size)⟩

theorem below_drewN {B : Nat} {a w : World} (h : Below B a w) (n : Nat) : Below B a (w.drewN n) := ⟨h.os, h.tape, h.output, h.size, h.block⟩
/-- n is how many bits v has. -/
structure LenIs (v : Int) (n : Int) : Prop where
  n0 : 0 ≤ n
  v0 : 0 ≤ v
  z : v = 0 → n = 0
  lt : v < pw n
  ge : v ≠ 0 → pw n ≤ 2 * v
def NLenPost (v : Int) (w : World) (e : Ending) (w' : World) : Prop := ∃ n : Int, LenIs v n ∧ e = .returned (.int .i64 n) ∧ Below w.heap.size w w'

/-- j halvings of a top limb x. -/
structure HalfAt (x j y : Int) : Prop where
  j0 : 0 ≤ j
  j1 : j ≤ 32
  y : y = x / pw j
  last : j = 0 ∨ pw (j - 1) ≤ x
theorem pw_succ (j : Int) (h : 0 ≤ j) : pw (j + 1) = 2 * pw j := by rw [Int.add_comm, pw_add 1 j (by decide) h]; rfl
theorem half_step {x j y : Int} (hx : Limb x) (h : HalfAt x j y) (hy : 0 < y) : HalfAt x (j + 1) (y / 2) := by
  obtain ⟨j0, j1, rfl, _⟩ := h
  have hp := pw_pos j
  have g : pw j ≤ x := by
    rcases Int.lt_or_le x (pw j) with c | c
    · rw [Int.ediv_eq_zero_of_lt hx.1 c] at hy; omega
    · exact c
  have lt : j < 32 := by
    refine pw_inj_le (by decide) ?_
    rw [show pw 32 = 4294967296 from rfl]; unfold Limb at hx; omega
  refine ⟨by omega, by omega, ?_, .inr (by rw [show j + 1 - 1 = j by omega]; exact g)⟩
  rw [pw_succ j j0, Int.mul_comm, Int.ediv_ediv_of_nonneg (Int.le_of_lt hp)]
theorem half_end {l : List Int} {j y : Int} (hl : ∀ x ∈ l, Limb x) (hn : Norm l) (hlen : l.length ≠ 0) (h : HalfAt (digV l (l.length - 1)) j y) (hy : ¬ 0 < y) : LenIs (natV l) (32 * ((l.length : Int) - 1) + j) := by
  obtain ⟨m, hm⟩ : ∃ m, l.length = m + 1 := ⟨l.length - 1, by omega⟩
  have e1 : l.length - 1 = m := by omega
  have e2 : (l.length : Int) - 1 = (m : Int) := by omega
  rw [e1] at h
  rw [e2]
  have hd := digV_limb hl m
  have hnz : digV l m ≠ 0 := by rw [digV_lt (by omega)]; exact hn m (by omega) (by omega)
  have hv : natV l = natV (l.take m) + pw (32 * (m : Int)) * digV l m := by rw [← natV_take_dig, natV_take_all (by omega)]
  have t0 := natV_nonneg (limbs_take hl m)
  have t1 := natV_take_lt hl m
  obtain ⟨j0, _, rfl, last⟩ := h
  have hp := pw_pos (32 * (m : Int))
  have hj := pw_pos j
  rw [hv]
  generalize digV l m = x at *
  generalize natV (l.take m) = t at *
  have hx : x < pw j := by
    rcases Int.lt_or_le x (pw j) with c | c
    · exact c
    · exact absurd (show 0 < x / pw j by have := Int.le_ediv_of_mul_le hj (show 1 * pw j ≤ x by omega); omega) hy
  have x0 : 0 < x := by unfold Limb at hd; omega
  have jp : 0 < j := by
    rcases Int.lt_or_le 0 j with c | c
    · exact c
    · rw [pw_nonpos c] at hx; omega
  have g : pw j ≤ 2 * x := by
    rcases last with c | c
    · omega
    · have := pw_succ (j - 1) (by omega); rw [show j - 1 + 1 = j by omega] at this; omega
  have ep : pw (32 * (m : Int) + j) = pw (32 * (m : Int)) * pw j := pw_add _ _ (by omega) j0
  have p1 : 0 < pw (32 * (m : Int)) * x := Int.mul_pos hp x0
  refine ⟨by omega, by omega, fun e => by omega, ?_, fun _ => ?_⟩
  · rw [ep]
    have := Int.mul_le_mul_of_nonneg_left (show x + 1 ≤ pw j by omega) (Int.le_of_lt hp)
    rw [Int.mul_add] at this; omega
  · rw [ep]
    have := Int.mul_le_mul_of_nonneg_left g (Int.le_of_lt hp)
    rw [Int.mul_left_comm] at this; omega

set_option maxHeartbeats 1000000 in
theorem rlen_any (A : Option Addr) (n c : Nat) (l : List Int) (w : World) (h : Sl w w.heap.size A n c l) (hn : n ≤ 100000000) :
    Calls Tryd.prog 20 #[.slice A n c] w (NLenPost (natV l) w) := by
  have HT := Lib.hid (rtrim_any A n c l w h (by omega))
  have hle := Lib.hid (show ∀ m : List Int, (∀ x ∈ m, Limb x) → Norm m → natV m = natV l → m.length ≤ n from fun m h1 h2 h3 => norm_len h1 h2 (by rw [h3, ← h.len]; exact natV_lt h.lim))
  clear h
  go_enter Tryd.func20, Tryd.ntmps20
  go_wp2_with fail
  refine HT.out.mono ?_
  rintro e w1 ⟨A1, n1, c1, l1, rfl, hs, hn1, hv, fr, hb⟩
  have n1b : n1 ≤ n := by have := hle.out l1 hs.lim hn1 hv; rw [hs.len] at this; exact this
  have hvh := Lib.hid hv
  clear hv hle HT
  by_cases c0 : n1 = 0
  · have cz : ((n1 : Int) == 0) = true := by simp [c0]
    have fin : Hid (LenIs (natV l) 0) := by
      have e : l1 = [] := List.eq_nil_of_length_eq_zero (by rw [hs.len]; exact c0)
      rw [← hvh.out, e]
      exact ⟨by decide, by decide, fun _ => rfl, by decide, fun h => absurd rfl h⟩
    have cz := Lib.hid c0
    clear c0 hs
    go_wp2
    go_ret
    exact ⟨0, fin.out, rfl, hb⟩
  · have cz : ((n1 : Int) == 0) = false := by simpa using c0
    obtain ⟨hlen, hcap, hmax, hlim, hnil, hrd⟩ := hs
    unfold maxLen at hmax
    rcases hrd with h0 | ⟨b, o, rfl, hb2, hc⟩
    · exact absurd h0 c0
    · obtain ⟨m, rfl⟩ : ∃ m, n1 = m + 1 := ⟨n1 - 1, by omega⟩
      have cell : w1.cell? ⟨b, o + m, none⟩ = some (.int .u32 (digV l1 m)) := by rw [hc m (by omega), digV_lt]
      have hx := digV_limb hlim m
      have em : ((m + 1 : Nat) : Int) = (m : Int) + 1 := by omega
      have hlt : (m : Int) < ((m + 1 : Nat) : Int) := by omega
      have es : ((m + 1 : Nat) : Int) - 1 = (m : Int) := by omega
      have fin : Hid (∀ j y, HalfAt (digV l1 m) j y → y ≤ 0 → LenIs (natV l) (32 * (m : Int) + j)) := fun j y h1 h2 => by
        rw [← hvh.out]
        have := half_end (l := l1) (j := j) (y := y) hlim hn1 (by omega) (by rw [show l1.length - 1 = m by omega]; exact h1) (by omega)
        rw [show (l1.length : Int) - 1 = (m : Int) by omega] at this
        exact this
      have st := Lib.hid (fun j y => @half_step (digV l1 m) j y hx)
      have s0 : Hid (HalfAt (digV l1 m) 0 (digV l1 m)) := ⟨by decide, by decide, by rw [show pw 0 = 1 from rfl, Int.ediv_one], .inl rfl⟩
      obtain ⟨x0, x1⟩ := hx
      generalize digV l1 m = x at *
      clear hc hnil hlim hlen c0 hvh hn1
      go_wp2
      go_loopw [4, 5] (fun n x' wr => ∃ j y : Int, n = .int .i64 (32 * (m : Int) + j) ∧ x' = .int .u32 y ∧ 0 ≤ j ∧ j ≤ 32 ∧ 0 ≤ y ∧ y ≤ 4294967295 ∧ HalfAt x j y ∧ w1 = wr) (fun _ x' _ => (intOf x').toNat)
      case atStart => exact ⟨0, x, by go_num, rfl, by decide, by decide, x0, by omega, s0.out, rfl⟩
      case round =>
        obtain ⟨j, y, rfl, rfl, j0, j1, y0, y1, hh, rfl⟩ := hrel
        by_cases hy : 0 < y
        · have hs := st.out j y hh hy
          clear st s0 fin
          have hb0 := hs.j1
          go_wp2
          go_roundw
          case rel => exact ⟨j + 1, y / 2, by go_num, rfl, by omega, hb0, by omega, by omega, hs, by first | trivial | rfl⟩
          case measure => simp [intOf]; omega
        · have := fin.out j y hh (by omega)
          clear st s0 fin
          go_wp2
          go_ret
          exact ⟨_, this, rfl, hb⟩

/-- What the comparison of two naturals answers. -/
def NCmpPost (x y : Int) (w : World) (e : Ending) (w' : World) : Prop := e = .returned (.int .i64 (cmpI x y)) ∧ Below w.heap.size w w'
theorem cmp_mk {x y r : Int} {w : World} {w' : World} (h : cmpI x y = r) (hb : Below w.heap.size w w') : NCmpPost x y w (.returned (.int .i64 r)) w' := ⟨by rw [h], hb⟩
theorem cmp_len {a b : List Int} (ha : ∀ x ∈ a, Limb x) (hb : ∀ x ∈ b, Limb x) (na : Norm a) (nb : Norm b) (h : a.length ≠ b.length) : cmpI (natV a) (natV b) = if a.length < b.length then -1 else 1 := by
  unfold cmpI
  by_cases c : a.length < b.length
  · rw [if_pos (norm_lt_of_len ha hb nb c), if_pos c]
  · have := norm_lt_of_len hb ha na (show b.length < a.length by omega)
    rw [if_neg (by omega), if_neg (by omega), if_neg c]
/-- The lists are alike from the k-th limb on. -/
def Alike (a b : List Int) (k : Nat) : Prop := a.drop k = b.drop k
theorem alike_step {a b : List Int} {k : Nat} (h : Alike a b (k + 1)) (h1 : k < a.length) (h2 : k < b.length) (e : digV a k = digV b k) : Alike a b k := by
  unfold Alike at *
  rw [List.drop_eq_getElem_cons h1, List.drop_eq_getElem_cons h2, h]
  rw [digV_lt h1, digV_lt h2] at e
  rw [e]
theorem alike_lt {a b : List Int} {k : Nat} (ha : ∀ x ∈ a, Limb x) (hb : ∀ x ∈ b, Limb x) (h : Alike a b (k + 1)) (h1 : k < a.length) (h2 : k < b.length) (e : digV a k < digV b k) : natV a < natV b := by
  have p := natV_split a (k + 1) (by omega)
  have q := natV_split b (k + 1) (by omega)
  unfold Alike at h
  rw [natV_take_dig] at p q
  rw [h] at p
  have a1 := natV_take_lt ha k
  have b0 := natV_nonneg (limbs_take hb k)
  have hp := pw_pos (32 * (k : Int))
  have := Int.mul_le_mul_of_nonneg_left (show digV a k + 1 ≤ digV b k by omega) (Int.le_of_lt hp)
  rw [Int.mul_add] at this
  omega
theorem alike_cmp {a b : List Int} {k : Nat} (ha : ∀ x ∈ a, Limb x) (hb : ∀ x ∈ b, Limb x) (h : Alike a b (k + 1)) (h1 : k < a.length) (h2 : k < b.length) (e : digV a k ≠ digV b k) : cmpI (natV a) (natV b) = if digV a k < digV b k then -1 else 1 := by
  unfold cmpI
  by_cases c : digV a k < digV b k
  · rw [if_pos (alike_lt ha hb h h1 h2 c), if_pos c]
  · have := alike_lt hb ha (k := k) (show Alike b a (k + 1) from Eq.symm h) h2 h1 (by omega)
    rw [if_neg (by omega), if_neg (by omega), if_neg c]
theorem alike_zero {a b : List Int} (h : Alike a b 0) : cmpI (natV a) (natV b) = 0 := by
  have : a = b := h
  subst this; unfold cmpI; rw [if_neg (by omega), if_pos rfl]
theorem alike_len {a b : List Int} (h : a.length = b.length) : Alike a b a.length := by
  unfold Alike; rw [List.drop_length, h, List.drop_length]

set_option maxHeartbeats 2000000 in
theorem rcmp_any (A B : Option Addr) (n m c d : Nat) (l k : List Int) (w : World) (h : Sl w w.heap.size A n c l) (h' : Sl w w.heap.size B m d k) (hn : n ≤ 100000000) (hm : m ≤ 100000000) :
    Calls Tryd.prog 22 #[.slice A n c, .slice B m d] w (NCmpPost (natV l) (natV k) w) := by
  have HT := Lib.hid (rtrim_any A n c l w h (by omega))
  have hle := Lib.hid (show ∀ x : List Int, (∀ y ∈ x, Limb y) → Norm x → natV x = natV l → x.length ≤ n from fun x h1 h2 h3 => norm_len h1 h2 (by rw [h3, ← h.len]; exact natV_lt h.lim))
  have hle' := Lib.hid (show ∀ x : List Int, (∀ y ∈ x, Limb y) → Norm x → natV x = natV k → x.length ≤ m from fun x h1 h2 h3 => norm_len h1 h2 (by rw [h3, ← h'.len]; exact natV_lt h'.lim))
  have H' := Lib.hid h'
  clear h h'
  go_enter Tryd.func22, Tryd.ntmps22
  go_wp2_with fail
  refine HT.out.mono ?_
  rintro e w1 ⟨A1, n1, c1, l1, rfl, hs, hn1, hv, fr, hb⟩
  have hvh := Lib.hid hv
  have n1b : n1 ≤ n := by have := hle.out l1 hs.lim hn1 hv; rw [hs.len] at this; exact this
  clear hv hle HT
  go_wp2_with fail
  refine (rtrim_any B m d k w1 (H'.out.on hb) (by omega)).mono ?_
  rintro e w2 ⟨A2, n2, c2, l2, rfl, hs2, hn2, hv2, fr2, hb2⟩
  have hvh2 := Lib.hid hv2
  have n2b : n2 ≤ m := by have := hle'.out l2 hs2.lim hn2 hv2; rw [hs2.len] at this; exact this
  have hs := hs.on hb2
  have hbb : Below w.heap.size w w2 := hb.trans (hb2.mono hb.size)
  clear hv2 hle' H' hb hb2
  by_cases cl : n1 = n2
  · subst cl
    obtain ⟨hlen, hcap, hmax, hlim, hnil, hrd⟩ := hs
    obtain ⟨hlen2, hcap2, hmax2, hlim2, hnil2, hrd2⟩ := hs2
    unfold maxLen at hmax hmax2
    have hmk : Hid (∀ r w', cmpI (natV l1) (natV l2) = r → Below w.heap.size w w' → NCmpPost (natV l) (natV k) w (.returned (.int .i64 r)) w') := fun r w' h1 h2 => cmp_mk (by rw [← hvh.out, ← hvh2.out]; exact h1) h2
    have hst := Lib.hid (fun k => @alike_cmp l1 l2 k hlim hlim2)
    have hz := Lib.hid (@alike_zero l1 l2)
    have hal := Lib.hid (alike_len (hlen.trans hlen2.symm))
    have hss := Lib.hid (fun k => @alike_step l1 l2 k)
    rcases Nat.eq_zero_or_pos n1 with c0 | c0
    · subst c0
      have fin := hmk.out 0 w2 (hz.out (by rw [← hlen]; exact hal.out)) hbb
      clear hlen hlen2 hmk hst hz hal hss hnil hnil2 hrd hrd2 hvh hvh2
      go_wp2
      refine wp_loop_rounds 1 ?_
      rw [rounds_succ]
      go_wp2
      go_ret
      exact fin
    · rcases hrd with h0 | ⟨b, o, rfl, hb2, hc⟩
      · omega
      rcases hrd2 with h0 | ⟨b', o', rfl, hb2', hc'⟩
      · omega
      have HC := Lib.hid (show ∀ i : Nat, i < n1 → w2.cell? ⟨b, o + i, none⟩ = some (.int .u32 (digV l1 i)) from fun i hi => by rw [hc i (by omega), digV_lt])
      have HC' := Lib.hid (show ∀ i : Nat, i < n1 → w2.cell? ⟨b', o' + i, none⟩ = some (.int .u32 (digV l2 i)) from fun i hi => by rw [hc' i (by omega), digV_lt])
      have HL := Lib.hid hlen
      have HL2 := Lib.hid hlen2
      have D1 := Lib.hid (digV_limb hlim)
      have D2 := Lib.hid (digV_limb hlim2)
      clear hc hc' hlen hlen2 hnil hnil2 hvh hvh2 hlim hlim2
      go_wp2
      go_loopw [7] (fun i wr => ∃ k : Nat, k ≤ n1 ∧ i = .int .i64 ((k : Int) - 1) ∧ Alike l1 l2 k ∧ ∃ q, w2.drewN q = wr) (fun i _ => (intOf i + 1).toNat)
      case atStart => exact ⟨n1, Nat.le_refl _, by go_num, by rw [← HL.out]; exact hal.out, 0, rfl⟩
      case round =>
        obtain ⟨k, hk, rfl, hA, q, rfl⟩ := hrel
        cases k with
        | zero =>
          have fin := Lib.hid (fun w' => hmk.out 0 w' (hz.out hA))
          clear HC HC' hst hss hz hal hmk hA HL HL2 D1 D2
          go_wp2
          go_ret
          exact fin.out _ (below_drewN hbb _)
        | succ j =>
          have hj : j < n1 := by omega
          have ej : ((j + 1 : Nat) : Int) - 1 = (j : Int) := by omega
          have jl : (j : Int) < (n1 : Int) := by omega
          have j0 : (0 : Int) ≤ (j : Int) := by omega
          have cell := HC.out j hj
          have cell' := HC'.out j hj
          obtain ⟨x0, x1⟩ := D1.out j
          obtain ⟨y0, y1⟩ := D2.out j
          have fe : Hid (digV l1 j = digV l2 j → Alike l1 l2 j) := hss.out j hA (by rw [HL.out]; exact hj) (by rw [HL2.out]; exact hj)
          have fn : Hid (digV l1 j ≠ digV l2 j → cmpI (natV l1) (natV l2) = if digV l1 j < digV l2 j then -1 else 1) := hst.out j hA (by rw [HL.out]; exact hj) (by rw [HL2.out]; exact hj)
          generalize digV l1 j = x at *
          generalize digV l2 j = y at *
          clear HC HC' hst hss hz hal hA HL HL2 D1 D2
          rcases Int.lt_trichotomy x y with cx | cx | cx
          · have fin := Lib.hid (fun w' => hmk.out (-1) w' (by rw [fn.out (by omega), if_pos cx]))
            have cx' := Lib.hid cx
            clear hmk fe fn
            go_wp2
            go_quiet (fail)
            go_wp2
            go_ret
            exact fin.out _ (by repeat (first | exact hbb | refine below_drewN ?_ _))
          · subst cx
            have fe2 : Hid (Alike l1 l2 j) := fe.out (by first | rfl | trivial)
            clear hmk fn
            go_wp2
            go_quiet (fail)
            go_wp2
            go_quiet (fail)
            go_wp2
            go_roundw
            case rel => exact ⟨j, by omega, by go_num, fe2.out, _, rfl⟩
            case measure => simp [intOf]
          · have fin := Lib.hid (fun w' => hmk.out 1 w' (by rw [fn.out (by omega), if_neg (by omega)]))
            have cx2 : ¬ x < y := by omega
            clear hmk fe fn
            go_wp2
            go_quiet (fail)
            go_wp2
            go_quiet (fail)
            go_wp2
            go_ret
            exact fin.out _ (by repeat (first | exact hbb | refine below_drewN ?_ _))
  · have el := cmp_len hs.lim hs2.lim hn1 hn2 (by rw [hs.len, hs2.len]; exact cl)
    rw [hs.len, hs2.len, hvh.out, hvh2.out] at el
    have cb : ((n1 : Int) != (n2 : Int)) = true := by simpa using (show (n1 : Int) ≠ n2 by omega)
    have c1 : (n1 : Int) ≤ 100000000 := by omega
    have c2 : (n2 : Int) ≤ 100000000 := by omega
    by_cases c : n1 < n2
    · rw [if_pos c] at el
      have fin := Lib.hid (fun w' => @cmp_mk _ _ _ w w' el)
      have c' : (n1 : Int) < (n2 : Int) := by omega
      clear el hs hs2 hn1 hn2 hvh hvh2 cl c
      go_wp2
      go_ret
      exact fin.out _ hbb
    · rw [if_neg c] at el
      have fin := Lib.hid (fun w' => @cmp_mk _ _ _ w w' el)
      have c' : ¬ (n1 : Int) < (n2 : Int) := by omega
      clear el hs hs2 hn1 hn2 hvh hvh2 cl c
      go_wp2
      go_ret
      exact fin.out _ hbb
end Go.Proofs.YtmjidpkddiinaaaDoor

/-
  The document's naturals: Plus, Less, Twice.
-/
namespace Go.Proofs.YtmjidpkddiinaaaDoor
open Go.RowKit Go.Shelf

theorem limb_u32 (s : Int) : IntKind.u32.wrap (s % 4294967296) = s % 4294967296 := by
  rw [IntKind.wrap_u32]; omega
theorem limb_mod (s : Int) : Limb (s % 4294967296) := ⟨by omega, by omega⟩

/-- k limbs of a sum, and what is carried. -/
structure PlusAt (a b : List Int) (k : Nat) (o : List Int) (cy : Int) : Prop where
  len : o.length = k
  lim : ∀ x ∈ o, Limb x
  v : natV o + cy * pw (32 * (k : Int)) = natV (a.take k) + natV (b.take k)
theorem plus_step {a b o : List Int} {k : Nat} {cy s : Int} (h : PlusAt a b k o cy) (hs : s = digV a k + digV b k + cy) : PlusAt a b (k + 1) (o ++ [s % 4294967296]) (s / 4294967296) := by
  obtain ⟨h1, h2, h3⟩ := h
  refine ⟨by simp [h1], limbs_snoc h2 (limb_mod s), ?_⟩
  rw [natV_snoc, natV_take_dig, natV_take_dig, pw32, h1]
  have e : s = 4294967296 * (s / 4294967296) + s % 4294967296 := by omega
  generalize s / 4294967296 = q at *
  generalize s % 4294967296 = r at *
  generalize pw (32 * (k : Int)) = p at *
  have : p * (digV a k + digV b k + cy) = p * (4294967296 * q + r) := by rw [← hs, ← e]
  rw [Int.mul_add, Int.mul_add, Int.mul_add] at this
  rw [Int.mul_comm cy p] at h3
  rw [Int.mul_comm q, Int.mul_assoc 4294967296 p q]
  rw [Int.mul_left_comm p 4294967296 q] at this
  omega
theorem plus_end {a b o : List Int} {k : Nat} {cy : Int} (h : PlusAt a b k o cy) (h1 : a.length ≤ k) (h2 : b.length ≤ k) (hc : Limb cy) : (∀ x ∈ o ++ [cy], Limb x) ∧ natV (o ++ [cy]) = natV a + natV b := by
  refine ⟨limbs_snoc h.lim hc, ?_⟩
  rw [natV_snoc, h.len, Int.mul_comm, h.v, natV_take_all h1, natV_take_all h2]

/-- Whatever of 'make' and 'append' the call's own row is, Trim of it is the answer. -/
theorem trim_own {w w1 : World} {v : Value} {n : Nat} {l : List Int} (hown : w1.ownsRow w.heap.size 66 1 v n (l.map (Value.int .u32))) (hl : ∀ x ∈ l, Limb x) (hn : n ≤ 1000000000) (hb : Below w.heap.size w w1) {x : Int} (hv : natV l = x) :
    Calls Tryd.prog 14 #[v] w1 (NatPost x w) := by
  obtain ⟨A, c, rfl, hs, _⟩ := Sl.of_own hown hl
  exact (rtrim_any A n c l w1 hs hn).mono fun e w' h => h.on hb hv

set_option maxHeartbeats 2000000 in
theorem rplus_any (A B : Option Addr) (n m c d : Nat) (a b : List Int) (w : World) (h : Sl w w.heap.size A n c a) (h' : Sl w w.heap.size B m d b) (hn : n ≤ 100000000) (hm : m ≤ 100000000) :
    Calls Tryd.prog 49 #[.slice A n c, .slice B m d] w (NatPost (natV a + natV b) w) := by
  have HA := Lib.hid h; have HB := Lib.hid h'
  have st := Lib.hid (fun k o cy s => @plus_step a b o k cy s)
  have la := Lib.hid h.len; have lb := Lib.hid h'.len
  have da := Lib.hid (digV_limb h.lim); have db := Lib.hid (digV_limb h'.lim)
  clear h h'
  go_enter Tryd.func49, Tryd.ntmps49
  go_wp2
  go_loopw [5, 6, 7] (fun v cc i wr => ∃ k : Nat, ∃ o : List Int, ∃ cy : Int, i = .int .i64 (k : Int) ∧ cc = .int .u64 cy ∧ 0 ≤ cy ∧ cy ≤ 1 ∧ (k ≤ n ∨ k ≤ m) ∧ wr.ownsRow w.heap.size 66 1 v k (o.map (Value.int .u32)) ∧ Below w.heap.size w wr ∧ PlusAt a b k o cy) (fun _ _ i _ => n + m - (intOf i).toNat)
  case atStart => exact ⟨0, [], 0, rfl, rfl, by decide, by decide, .inl (by omega), ⟨rfl, .inl ⟨rfl, rfl⟩⟩, Below.refl _ _, ⟨rfl, by simp, by simp [natV]⟩⟩
  case round =>
    obtain ⟨k, o, cy, rfl, rfl, c0, c1, hk, hown, hB, hP⟩ := hrel
    have k0 : (k : Int) ≤ 100000000 := by omega
    by_cases hlt : k < n ∨ k < m
    · have HAw := Lib.hid ((HA.out.below hB).more hB.size)
      have HBw := Lib.hid ((HB.out.below hB).more hB.size)
      obtain ⟨x0, x1⟩ := da.out k
      obtain ⟨y0, y1⟩ := db.out k
      have stp := Lib.hid (st.out k o cy (digV a k + digV b k + cy) hP rfl)
      have CA := Lib.hid (limb_any A n c a k wr HAw.out (by omega))
      have CB := Lib.hid (limb_any B m d b k wr HBw.out (by omega))
      generalize digV a k = x at *
      generalize digV b k = y at *
      have wr1 := limb_u32 (x + y + cy)
      have WR := Lib.hid wr1
      have hown := Lib.hid hown
      have hk' : (n : Int) ≤ (k : Int) → (k : Int) < (m : Int) := by omega
      clear wr1 hP HAw HBw HA HB da db la lb st
      by_cases hkn : k < n
      · have hlt' : (k : Int) < (n : Int) := by omega
        clear hk' hlt
        go_wp2_with fail
        refine CA.out.mono ?_
        rintro e w' ⟨rfl, rfl⟩
        go_wp2_with fail
        refine CB.out.mono ?_
        rintro e w' ⟨rfl, rfl⟩
        go_wp2_with (at_builtin; refine wpList_app1 rfl _ _ rfl w.heap.size _ k o ((x + y + cy) % 4294967296) hown.out rfl rfl (by omega) hB.size ?_; intro v1 w1 hown1 hb1)
        go_roundw
        case rel => exact ⟨k + 1, _, _, by go_num, rfl, by omega, by omega, by omega, hown1, hB.trans hb1, stp.out⟩
        case measure => simp [intOf]; omega
      · have hge : (n : Int) ≤ (k : Int) := by omega
        have hlt' : (k : Int) < (m : Int) := by omega
        clear hk' hlt
        go_wp2_with fail
        refine CA.out.mono ?_
        rintro e w' ⟨rfl, rfl⟩
        go_wp2_with fail
        refine CB.out.mono ?_
        rintro e w' ⟨rfl, rfl⟩
        go_wp2_with (at_builtin; refine wpList_app1 rfl _ _ rfl w.heap.size _ k o ((x + y + cy) % 4294967296) hown.out rfl rfl (by omega) hB.size ?_; intro v1 w1 hown1 hb1)
        go_roundw
        case rel => exact ⟨k + 1, _, _, by go_num, rfl, by omega, by omega, by omega, hown1, hB.trans hb1, stp.out⟩
        case measure => simp [intOf]; omega
    · have hge : (n : Int) ≤ (k : Int) := by omega
      have hge2 : (m : Int) ≤ (k : Int) := by omega
      have wcy : IntKind.u32.wrap cy = cy := by rw [IntKind.wrap_u32]; omega
      have fin := Lib.hid (plus_end hP (by rw [la.out]; omega) (by rw [lb.out]; omega) (show Limb cy from ⟨c0, by omega⟩))
      have HO := Lib.hid hown
      clear hown HA HB da db la lb st hP wcy
      go_wp2_with (at_builtin; refine wpList_app1 rfl _ _ rfl w.heap.size _ k o cy HO.out rfl rfl (by omega) hB.size ?_; intro v1 w1 hown1 hb1)
      refine (trim_own hown1 fin.out.1 (by omega) (hB.trans hb1) fin.out.2).mono ?_
      intro e w2 hp
      obtain ⟨A2, n2, c2, l2, rfl, hs2, hn2, hv2, fr2, hb2⟩ := hp
      have hp := Lib.hid (show NatPost (natV a + natV b) w (.returned (.slice A2 n2 c2)) w2 from ⟨A2, n2, c2, l2, rfl, hs2, hn2, hv2, fr2, hb2⟩)
      clear hs2 hn2 hv2 hb2
      go_wp2
      go_ret
      exact hp.out
end Go.Proofs.YtmjidpkddiinaaaDoor

/-
  The document's naturals: Less, Twice.
-/
namespace Go.Proofs.YtmjidpkddiinaaaDoor
open Go.RowKit Go.Shelf

/-- k limbs of a difference, and what is borrowed. -/
structure LessAt (a b : List Int) (k : Nat) (o : List Int) (cy : Int) : Prop where
  len : o.length = k
  lim : ∀ x ∈ o, Limb x
  v : natV o + natV (b.take k) = natV (a.take k) + cy * pw (32 * (k : Int))
theorem less_step {a b o : List Int} {k : Nat} {cy x y c z : Int} (h : LessAt a b k o cy) (hx : x = digV a k) (hy : y = digV b k + cy) (hz : z = x + 4294967296 * c - y) (hl : Limb z) : LessAt a b (k + 1) (o ++ [z]) c := by
  obtain ⟨h1, h2, h3⟩ := h
  refine ⟨by simp [h1], limbs_snoc h2 hl, ?_⟩
  rw [natV_snoc, natV_take_dig, natV_take_dig, pw32, h1]
  subst hz hx hy
  generalize pw (32 * (k : Int)) = p at *
  rw [Int.mul_sub, Int.mul_add, Int.mul_add]
  rw [Int.mul_comm cy p] at h3
  rw [Int.mul_comm c, Int.mul_assoc 4294967296 p c, Int.mul_left_comm p 4294967296 c]
  omega
theorem less_end {a b o : List Int} {cy : Int} (ha : ∀ x ∈ a, Limb x) (hb : ∀ x ∈ b, Limb x) (h : LessAt a b a.length o cy) (hle : natV b ≤ natV a) (c0 : 0 ≤ cy) : natV o = natV a - natV b := by
  obtain ⟨h1, h2, h3⟩ := h
  rw [natV_take_all (Nat.le_refl _)] at h3
  have l1 := natV_lt h2
  have l2 := natV_lt ha
  have l3 := natV_take_le hb a.length
  rw [h1] at l1
  have hp := pw_pos (32 * (a.length : Int))
  have e : natV (b.take a.length) = natV b := by
    rcases Nat.lt_or_ge a.length b.length with c | c
    · have s := natV_split b a.length (by omega)
      have d0 := natV_nonneg (limbs_drop hb a.length)
      have t0 := natV_nonneg (limbs_take hb a.length)
      rcases Int.lt_or_le 0 (natV (b.drop a.length)) with g | g
      · have := Int.mul_le_mul_of_nonneg_left (show 1 ≤ natV (b.drop a.length) by omega) (Int.le_of_lt hp)
        omega
      · have : natV (b.drop a.length) = 0 := by omega
        rw [this] at s; omega
    · exact natV_take_all c
  rw [e] at h3
  rcases Int.lt_or_le 0 cy with g | g
  · have := Int.mul_le_mul_of_nonneg_right (show 1 ≤ cy by omega) (Int.le_of_lt hp)
    omega
  · have : cy = 0 := by omega
    rw [this] at h3; omega

set_option maxHeartbeats 2000000 in
theorem rless_any (A B : Option Addr) (n m c d : Nat) (a b : List Int) (w : World) (h : Sl w w.heap.size A n c a) (h' : Sl w w.heap.size B m d b) (hn : n ≤ 100000000) (_hm : m ≤ 100000000) (hle : natV b ≤ natV a) :
    Calls Tryd.prog 51 #[.slice A n c, .slice B m d] w (NatPost (natV a - natV b) w) := by
  have HA := Lib.hid h; have HB := Lib.hid h'
  have st := Lib.hid (fun k o cy x y c z => @less_step a b o k cy x y c z)
  have la := Lib.hid h.len
  have fin := Lib.hid (fun o cy h1 => @less_end a b o cy h.lim h'.lim h1 hle)
  have da := Lib.hid (digV_limb h.lim); have db := Lib.hid (digV_limb h'.lim)
  clear h h' hle
  go_enter Tryd.func51, Tryd.ntmps51
  go_wp2
  go_loopw [5, 6, 7] (fun v cc i wr => ∃ k : Nat, ∃ o : List Int, ∃ cy : Int, i = .int .i64 (k : Int) ∧ cc = .int .u64 cy ∧ 0 ≤ cy ∧ cy ≤ 1 ∧ k ≤ n ∧ wr.ownsRow w.heap.size 66 1 v k (o.map (Value.int .u32)) ∧ Below w.heap.size w wr ∧ LessAt a b k o cy) (fun _ _ i _ => n - (intOf i).toNat)
  case atStart => exact ⟨0, [], 0, rfl, rfl, by decide, by decide, by omega, ⟨rfl, .inl ⟨rfl, rfl⟩⟩, Below.refl _ _, ⟨rfl, by simp, by simp [natV]⟩⟩
  case round =>
    obtain ⟨k, o, cy, rfl, rfl, c0, c1, hk, hown, hB, hP⟩ := hrel
    have k0 : (k : Int) ≤ 100000000 := by omega
    by_cases hlt : k < n
    · have HAw := Lib.hid ((HA.out.below hB).more hB.size)
      have HBw := Lib.hid ((HB.out.below hB).more hB.size)
      obtain ⟨x0, x1⟩ := da.out k
      obtain ⟨y0, y1⟩ := db.out k
      have CA := Lib.hid (limb_any A n c a k wr HAw.out (by omega))
      have CB := Lib.hid (limb_any B m d b k wr HBw.out (by omega))
      have stp := Lib.hid (fun c z (h1 : z = digV a k + 4294967296 * c - (digV b k + cy)) (h2 : Limb z) => st.out k o cy _ _ c z hP rfl rfl h1 h2)
      generalize digV a k = x at *
      generalize digV b k = y at *
      have hown := Lib.hid hown
      have hlt' : (k : Int) < (n : Int) := by omega
      clear hP HAw HBw HA HB da db la st fin
      by_cases hxy : x < y + cy
      · have stp := Lib.hid (stp.out 1 (x + 4294967296 - (y + cy)) (by omega) ⟨by omega, by omega⟩)
        have f1 : 0 ≤ x + 4294967296 - (y + cy) := by omega
        have f2 : x + 4294967296 - (y + cy) < 4294967296 := by omega
        go_wp2_with fail
        refine CA.out.mono ?_
        rintro e w' ⟨rfl, rfl⟩
        go_wp2_with fail
        refine CB.out.mono ?_
        rintro e w' ⟨rfl, rfl⟩
        go_wp2_with (at_builtin; go_loud (refine wpList_app1 rfl _ _ rfl w.heap.size _ k o (x + 4294967296 - (y + cy)) hown.out rfl rfl (by omega) hB.size ?_); intro v1 w1 hown1 hb1)
        go_roundw
        case rel => exact ⟨k + 1, _, _, by go_num, rfl, by omega, by omega, by omega, hown1, hB.trans hb1, stp.out⟩
        case measure => simp [intOf]; omega
      · have stp := Lib.hid (stp.out 0 (x - (y + cy)) (by omega) ⟨by omega, by omega⟩)
        have f1 : 0 ≤ x - (y + cy) := by omega
        have f2 : x - (y + cy) < 4294967296 := by omega
        go_wp2_with fail
        refine CA.out.mono ?_
        rintro e w' ⟨rfl, rfl⟩
        go_wp2_with fail
        refine CB.out.mono ?_
        rintro e w' ⟨rfl, rfl⟩
        go_wp2_with (at_builtin; go_loud (refine wpList_app1 rfl _ _ rfl w.heap.size _ k o (x - (y + cy)) hown.out rfl rfl (by omega) hB.size ?_); intro v1 w1 hown1 hb1)
        go_roundw
        case rel => exact ⟨k + 1, _, _, by go_num, rfl, by omega, by omega, by omega, hown1, hB.trans hb1, stp.out⟩
        case measure => simp [intOf]; omega
    · have ek : k = n := by omega
      have hge : (n : Int) ≤ (k : Int) := by omega
      have HT := Lib.hid (trim_own hown hP.lim (by omega) hB (fin.out o cy (by rw [la.out, ← ek]; exact hP) c0))
      clear hown HA HB da db la st hP fin ek
      go_wp2_with fail
      refine HT.out.mono ?_
      intro e w2 hp
      obtain ⟨A2, n2, c2, l2, rfl, hs2, hn2, hv2, fr2, hb2⟩ := hp
      have hp := Lib.hid (show NatPost (natV a - natV b) w (.returned (.slice A2 n2 c2)) w2 from ⟨A2, n2, c2, l2, rfl, hs2, hn2, hv2, fr2, hb2⟩)
      clear hs2 hn2 hv2 hb2
      go_wp2
      go_ret
      exact hp.out

/-- k limbs of a double. -/
structure TwiceAt (a : List Int) (c : Int) (k : Nat) (o : List Int) (cy : Int) : Prop where
  len : o.length = k
  lim : ∀ x ∈ o, Limb x
  v : natV o + cy * pw (32 * (k : Int)) = 2 * natV (a.take k) + c
theorem twice_step {a o : List Int} {k : Nat} {c cy s : Int} (h : TwiceAt a c k o cy) (hs : s = 2 * digV a k + cy) : TwiceAt a c (k + 1) (o ++ [s % 4294967296]) (s / 4294967296) := by
  obtain ⟨h1, h2, h3⟩ := h
  refine ⟨by simp [h1], limbs_snoc h2 (limb_mod s), ?_⟩
  rw [natV_snoc, natV_take_dig, pw32, h1]
  have e : s = 4294967296 * (s / 4294967296) + s % 4294967296 := by omega
  generalize s / 4294967296 = q at *
  generalize s % 4294967296 = r at *
  generalize pw (32 * (k : Int)) = p at *
  have : p * (2 * digV a k + cy) = p * (4294967296 * q + r) := by rw [← hs, ← e]
  rw [Int.mul_add, Int.mul_add, Int.mul_left_comm p 2] at this
  rw [Int.mul_comm cy p] at h3
  rw [Int.mul_comm q, Int.mul_assoc 4294967296 p q]
  rw [Int.mul_left_comm p 4294967296 q] at this
  omega
theorem twice_end {a o : List Int} {k : Nat} {c cy : Int} (h : TwiceAt a c k o cy) (h1 : a.length ≤ k) (hc : Limb cy) : (∀ x ∈ o ++ [cy], Limb x) ∧ natV (o ++ [cy]) = 2 * natV a + c := by
  refine ⟨limbs_snoc h.lim hc, ?_⟩
  rw [natV_snoc, h.len, Int.mul_comm, h.v, natV_take_all h1]
/-- One more, perhaps. -/
def b2i (b : Bool) : Int := if b then 1 else 0

set_option maxHeartbeats 2000000 in
theorem rtwice_any (A : Option Addr) (n c : Nat) (a : List Int) (more : Bool) (w : World) (h : Sl w w.heap.size A n c a) (hn : n ≤ 100000000) :
    Calls Tryd.prog 57 #[.slice A n c, .bool more] w (NatPost (2 * natV a + b2i more) w) := by
  have HA := Lib.hid h
  obtain ⟨mm, hmm⟩ : ∃ mm, b2i more = mm := ⟨_, rfl⟩
  rw [hmm]
  have st := Lib.hid (fun k o cy s => @twice_step a o k mm cy s)
  have la := Lib.hid h.len
  have da := Lib.hid (digV_limb h.lim)
  have s0 : Hid (TwiceAt a mm 0 [] (b2i more)) := ⟨rfl, by simp, by show natV [] + b2i more * 1 = 2 * natV (a.take 0) + mm; rw [hmm]; simp [natV]⟩
  have HM := Lib.hid hmm
  clear hmm h
  cases more
  all_goals
    go_enter Tryd.func57, Tryd.ntmps57
    go_wp2
    go_loopw [5, 6, 7] (fun v cc i wr => ∃ k : Nat, ∃ o : List Int, ∃ cy : Int, i = .int .i64 (k : Int) ∧ cc = .int .u64 cy ∧ 0 ≤ cy ∧ cy ≤ 1 ∧ k ≤ n ∧ wr.ownsRow w.heap.size 66 1 v k (o.map (Value.int .u32)) ∧ Below w.heap.size w wr ∧ TwiceAt a mm k o cy) (fun _ _ i _ => n - (intOf i).toNat)
    case atStart => exact ⟨0, [], _, rfl, rfl, by decide, by decide, by omega, ⟨rfl, .inl ⟨rfl, rfl⟩⟩, Below.refl _ _, s0.out⟩
    case round =>
      obtain ⟨k, o, cy, rfl, rfl, c0, c1, hk, hown, hB, hP⟩ := hrel
      have k0 : (k : Int) ≤ 100000000 := by omega
      by_cases hlt : k < n
      · have HAw := (HA.out.below hB).more hB.size
        rcases HAw.rd with hz | ⟨b, of, rfl, hb, hc⟩
        · omega
        have cell : wr.cell? ⟨b, of + k, none⟩ = some (.int .u32 (digV a k)) := by rw [hc k (by rw [la.out]; exact hlt), digV_lt]
        obtain ⟨x0, x1⟩ := da.out k
        have stp := Lib.hid (st.out k o cy (2 * digV a k + cy) hP rfl)
        generalize digV a k = x at *
        have hown := Lib.hid hown
        have hlt' : (k : Int) < (n : Int) := by omega
        clear hP HA HAw da la st hc s0
        go_wp2_with (at_builtin; go_loud (refine wpList_app1 rfl _ _ rfl w.heap.size _ k o ((2 * x + cy) % 4294967296) hown.out rfl rfl (by omega) hB.size ?_); intro v1 w1 hown1 hb1)
        go_roundw
        case rel => exact ⟨k + 1, _, _, by go_num, rfl, by omega, by omega, by omega, hown1, hB.trans hb1, stp.out⟩
        case measure => simp [intOf]; omega
      · have hge : (n : Int) ≤ (k : Int) := by omega
        have fin := Lib.hid (twice_end hP (by rw [la.out]; omega) (show Limb cy from ⟨c0, by omega⟩))
        have HO := Lib.hid hown
        clear hown HA da la st hP s0
        go_wp2_with (at_builtin; go_loud (refine wpList_app1 rfl _ _ rfl w.heap.size _ k o cy HO.out rfl rfl (by omega) hB.size ?_); intro v1 w1 hown1 hb1)
        refine (trim_own hown1 fin.out.1 (by omega) (hB.trans hb1) fin.out.2).mono ?_
        intro e w2 hp
        obtain ⟨A2, n2, c2, l2, rfl, hs2, hn2, hv2, fr2, hb2⟩ := hp
        have hp := Lib.hid (show NatPost _ w (.returned (.slice A2 n2 c2)) w2 from ⟨A2, n2, c2, l2, rfl, hs2, hn2, hv2, fr2, hb2⟩)
        clear hs2 hn2 hv2 hb2
        go_wp2
        go_ret
        exact hp.out
end Go.Proofs.YtmjidpkddiinaaaDoor

/-
  The document's naturals: Times.
-/
namespace Go.Proofs.YtmjidpkddiinaaaDoor
open Go.RowKit Go.Shelf

/-- 'make' of n limbs. -/
theorem wpList_mk {w : World} {ops : Array Oper} {rest : List Oper} {o : Oper} {a : Act} {Q : Exit → Act → World → Prop} (hgd : o.guard = none) (s x : Operand) (ho : o.op = Op.makeSlice 22 s x)
    (base : Nat) (L C : Int) (n : Nat) (hs : a.eval s = .int .i64 L) (hx : a.eval x = .int .i64 C) (hL : L = (n : Int)) (hC : C = (n : Int)) (hn : n ≤ 2000000000) (hbase : base ≤ w.heap.size)
    (h : ∀ w', w'.ownsRow base 66 1 (.slice (some ⟨w.heap.size, 0, none⟩) n n) n ((List.replicate n (0 : Int)).map (Value.int .u32)) → Below base w w' → w.heap.size < w'.heap.size → wpList Tryd.prog ops Q rest (a.put o.dst (.slice (some ⟨w.heap.size, 0, none⟩) n n)) w') :
    wpList Tryd.prog ops Q (o :: rest) a w := by
  obtain ⟨i0, hi, hz0, hz1, hz2⟩ := info_parts Tryd.info71
  refine wpList_make_full w hgd s x 22 ho base 66 i0 (.int .u32 0) 1 Tryd.underlying22 hi hz0 hz1 .i64 .i64 L C n hs hx hL hC (by rw [hz2]; omega) (by unfold maxLen; omega) hbase fun w' h1 h2 => ?_
  refine h w' ?_ ((Below.refl _ _).grown h2 hbase (fun k hk => by cases hk)) (h1.lt _ rfl).2
  have e : (madeCells (Value.int .u32 0).cells (n * 1)).toList = (List.replicate n (0 : Int)).map (Value.int .u32) := by
    rw [show (Value.int .u32 0).cells = #[Value.int .u32 0] from rfl, toList_madeCells_one, List.map_replicate, Nat.mul_one]
  rw [← e]; exact h1

/-- i rows of a product. -/
structure TimesAt (a b : List Int) (N i : Nat) (o : List Int) : Prop where
  len : o.length = N
  lim : ∀ x ∈ o, Limb x
  v : natV o = natV (a.take i) * natV b
  z : ∀ t : Nat, i + b.length ≤ t → digV o t = 0
/-- .. and k limbs of the next row. -/
structure TimesIn (a b : List Int) (N i k : Nat) (o : List Int) (cy : Int) : Prop where
  len : o.length = N
  lim : ∀ x ∈ o, Limb x
  v : natV o + cy * pw (32 * ((i + k : Nat) : Int)) = natV (a.take i) * natV b + digV a i * (pw (32 * (i : Int)) * natV (b.take k))
  z : ∀ t : Nat, i + b.length ≤ t → digV o t = 0
theorem digV_set_ne {o : List Int} {i t : Nat} {x : Int} (h : i ≠ t) : digV (o.set i x) t = digV o t := by
  unfold digV; rw [List.getElem?_set_ne h]
theorem times_in {a b o : List Int} {N i : Nat} (h : TimesAt a b N i o) : TimesIn a b N i 0 o 0 :=
  ⟨h.len, h.lim, by rw [h.v, List.take_zero, show natV [] = 0 from rfl]; simp, h.z⟩
theorem times_step {a b o : List Int} {N i k : Nat} {cy s : Int} (h : TimesIn a b N i k o cy) (hk : k < b.length) (hN : i + k < N) (hs : s = digV a i * digV b k + digV o (i + k) + cy) :
    TimesIn a b N i (k + 1) (o.set (i + k) (s % 4294967296)) (s / 4294967296) := by
  obtain ⟨h1, h2, h3, h4⟩ := h
  refine ⟨by rw [List.length_set, h1], limbs_set h2 _ (limb_mod s), ?_, fun t ht => by rw [digV_set_ne (by omega)]; exact h4 t ht⟩
  rw [natV_set _ (by omega), ← digV_lt (by omega), natV_take_dig, show i + (k + 1) = i + k + 1 from rfl, pw32]
  have ep : pw (32 * ((i + k : Nat) : Int)) = pw (32 * (i : Int)) * pw (32 * (k : Int)) := by rw [← pw_add _ _ (by omega) (by omega)]; congr 1; omega
  have e : s = 4294967296 * (s / 4294967296) + s % 4294967296 := by omega
  generalize s / 4294967296 = q at *
  generalize s % 4294967296 = r at *
  generalize digV o (i + k) = D at *
  generalize hp : pw (32 * ((i + k : Nat) : Int)) = p at *
  have f : p * (digV a i * digV b k + D + cy) = p * (4294967296 * q + r) := by rw [← hs, ← e]
  have g : digV a i * (pw (32 * (i : Int)) * (natV (b.take k) + pw (32 * (k : Int)) * digV b k)) = digV a i * (pw (32 * (i : Int)) * natV (b.take k)) + p * (digV a i * digV b k) := by
    rw [Int.mul_add, Int.mul_add, ← Int.mul_assoc (pw (32 * (i : Int))) (pw (32 * (k : Int))), ← ep, Int.mul_left_comm (digV a i) p]
  rw [g]
  rw [Int.mul_add, Int.mul_add, Int.mul_add, Int.mul_left_comm p 4294967296] at f
  rw [Int.mul_comm cy p] at h3
  rw [Int.mul_sub, Int.mul_comm q, Int.mul_assoc 4294967296 p q]
  omega
theorem times_out {a b o : List Int} {N i : Nat} {cy : Int} (h : TimesIn a b N i b.length o cy) (hc : Limb cy) (hN : i + b.length < N) : TimesAt a b N (i + 1) (o.set (i + b.length) cy) := by
  obtain ⟨h1, h2, h3, h4⟩ := h
  refine ⟨by rw [List.length_set, h1], limbs_set h2 _ hc, ?_, fun t ht => by rw [digV_set_ne (by omega)]; exact h4 t (by omega)⟩
  rw [natV_set _ (by omega), ← digV_lt (by omega), h4 _ (Nat.le_refl _), natV_take_dig, Int.add_mul]
  rw [natV_take_all (Nat.le_refl _)] at h3
  rw [Int.mul_comm cy] at h3
  rw [Int.mul_sub, Int.mul_zero, Int.sub_zero, h3, Int.mul_left_comm, Int.mul_assoc]
theorem mul_limb {x y : Int} (hx : Limb x) (hy : Limb y) : 0 ≤ x * y ∧ x * y ≤ 18446744065119617025 := by
  unfold Limb at *
  exact ⟨Int.mul_nonneg hx.1 hy.1, Int.le_trans (Int.mul_le_mul (show x ≤ 4294967295 by omega) (show y ≤ 4294967295 by omega) hy.1 (by omega)) (by decide)⟩
theorem row_cell {w : World} {base g N : Nat} {o : List Int} (h : w.ownsRow base 66 1 (.slice (some ⟨g, 0, none⟩) N N) N (o.map (Value.int .u32))) (j : Nat) (hj : j < N) : w.cell? ⟨g, j, none⟩ = some (.int .u32 (digV o j)) := by
  have hl : o.length = N := by have := h.1; simpa using this
  rw [h.cellAt j (by omega), digV_lt (by omega)]
  simp [show j < o.length by omega]
theorem row_set {w : World} {base g N : Nat} {o : List Int} (h : w.ownsRow base 66 1 (.slice (some ⟨g, 0, none⟩) N N) N (o.map (Value.int .u32))) (j : Nat) (x : Int) :
    (w.setCell ⟨g, j, none⟩ (.int .u32 x)).ownsRow base 66 1 (.slice (some ⟨g, 0, none⟩) N N) N ((o.set j x).map (Value.int .u32)) := by
  have := (h.stored j (.int .u32 x)).1
  rw [List.map_set]; exact this
theorem row_drewN {w : World} {base n : Nat} {v : Value} {xs : List Value} (h : w.ownsRow base 66 1 v n xs) (k : Nat) : (w.drewN k).ownsRow base 66 1 v n xs := h

set_option maxHeartbeats 4000000 in
theorem rtimes_any (A B : Option Addr) (n m c d : Nat) (a b : List Int) (w : World) (h : Sl w w.heap.size A n c a) (h' : Sl w w.heap.size B m d b) (hn : n ≤ 100000000) (hm : m ≤ 100000000) :
    Calls Tryd.prog 52 #[.slice A n c, .slice B m d] w (NatPost (natV a * natV b) w) := by
  have HA := Lib.hid h; have HB := Lib.hid h'
  have la := Lib.hid h.len; have lb := Lib.hid h'.len
  have da := Lib.hid (digV_limb h.lim); have db := Lib.hid (digV_limb h'.lim)
  have s0 : Hid (TimesAt a b (n + m + 1) 0 (List.replicate (n + m + 1) 0)) := ⟨by simp, limbs_rep _, by rw [natV_rep]; simp [natV], fun t _ => by
    rcases Nat.lt_or_ge t (List.replicate (n + m + 1) (0 : Int)).length with c1 | c1
    · rw [digV_lt c1]; simp
    · exact digV_ge c1⟩
  obtain ⟨N, hN⟩ : ∃ N, n + m + 1 = N := ⟨_, rfl⟩
  have eN : (n : Int) + (m : Int) + 1 = (N : Int) := by omega
  have EN := Lib.hid eN
  rw [hN] at s0
  have bN : N ≤ 200000001 := by omega
  have hN' : n + m < N := by omega
  have HN := Lib.hid hN
  clear h h' hN eN
  go_enter Tryd.func52, Tryd.ntmps52
  go_wp2_with (at_make; go_loud (refine wpList_mk rfl _ _ rfl w.heap.size _ _ N rfl rfl EN.out EN.out (by omega) (Nat.le_refl _) ?_); intro w1 hown1 hb1 hz1)
  go_loopw [6] (fun i wr => ∃ t : Nat, ∃ o : List Int, i = .int .i64 (t : Int) ∧ t ≤ n ∧ wr.ownsRow w.heap.size 66 1 (.slice (some ⟨w.heap.size, 0, none⟩) N N) N (o.map (Value.int .u32)) ∧ Below w.heap.size w wr ∧ w.heap.size < wr.heap.size ∧ TimesAt a b N t o) (fun i _ => n - (intOf i).toNat)
  case atStart => exact ⟨0, _, rfl, by omega, hown1, hb1, hz1, s0.out⟩
  case round =>
    obtain ⟨t, o, rfl, ht, hown, hB, hz, hP⟩ := hrel
    have t0 : (t : Int) ≤ 100000000 := by omega
    have bn : (n : Int) ≤ 100000000 := by omega
    have bm : (m : Int) ≤ 100000000 := by omega
    clear hown1 hb1 hz1 s0
    by_cases hlt : t < n
    · have hlt' : (t : Int) < (n : Int) := by omega
      have hP := Lib.hid hP
      have HO := Lib.hid hown
      clear hown
      go_upto_block 2 with fail
      go_cut [7] (fun v wx => ∃ cy : Int, ∃ o : List Int, v = .int .u64 cy ∧ 0 ≤ cy ∧ cy < 4294967296 ∧ wx.ownsRow w.heap.size 66 1 (.slice (some ⟨w.heap.size, 0, none⟩) N N) N (o.map (Value.int .u32)) ∧ Below w.heap.size w wx ∧ w.heap.size < wx.heap.size ∧ TimesIn a b N t m o cy)
      case first =>
        go_wp2_with fail
        go_loopw [7, 8] (fun v kk wx => ∃ k : Nat, ∃ cy : Int, ∃ o : List Int, kk = .int .i64 (k : Int) ∧ v = .int .u64 cy ∧ k ≤ m ∧ 0 ≤ cy ∧ cy < 4294967296 ∧ wx.ownsRow w.heap.size 66 1 (.slice (some ⟨w.heap.size, 0, none⟩) N N) N (o.map (Value.int .u32)) ∧ Below w.heap.size w wx ∧ w.heap.size < wx.heap.size ∧ TimesIn a b N t k o cy) (fun _ kk _ => m - (intOf kk).toNat)
        case atStart => exact ⟨0, 0, o, rfl, rfl, by omega, by decide, by decide, HO.out, hB, hz, times_in hP.out⟩
        case round =>
          obtain ⟨k, cy, o, rfl, rfl, hk, c0, c1, hown, hB, hz, hI⟩ := hrel
          clear HO hP
          by_cases hkm : k < m
          · have HAw := (HA.out.below hB)
            have HBw := (HB.out.below hB)
            rcases HAw.rd with hz1 | ⟨b1, o1, rfl, hb1, hc1⟩
            · omega
            rcases HBw.rd with hz2 | ⟨b2, o2, rfl, hb2, hc2⟩
            · omega
            obtain ⟨j, hj⟩ : ∃ j, t + k = j := ⟨_, rfl⟩
            have cell1 := hc1 t (by rw [la.out]; exact hlt)
            have cell2 := hc2 k (by rw [lb.out]; exact hkm)
            have cell3 := row_cell hown j (by omega)
            have fr : World.frozen? _ ⟨w.heap.size, j, none⟩ = false := hown.frozenAt j
            rw [← digV_lt] at cell1 cell2
            obtain ⟨x0, x1⟩ := da.out t
            obtain ⟨y0, y1⟩ := db.out k
            obtain ⟨p0, p1⟩ := mul_limb (da.out t) (db.out k)
            obtain ⟨z0, z1⟩ := digV_limb hI.lim j
            have stp := Lib.hid (times_step (s := digV a t * digV b k + digV o j + cy) hI (by rw [lb.out]; exact hkm) (by omega) (by rw [hj]))
            rw [hj] at stp
            have ej : (t : Int) + (k : Int) = (j : Int) := by omega
            have jN : (j : Int) < (N : Int) := by omega
            have j0 : (0 : Int) ≤ (j : Int) := by omega
            have hkm' : (k : Int) < (m : Int) := by omega
            have k0 : (0 : Int) ≤ (k : Int) := by omega
            have tt0 : (0 : Int) ≤ (t : Int) := by omega
            have Hown := Lib.hid hown
            generalize hp : digV a t * digV b k = p at *
            generalize digV a t = x at *
            generalize digV b k = y at *
            generalize digV o j = z at *
            have wj : IntKind.i64.wrap ((t : Int) + (k : Int)) = (j : Int) := by rw [ej, IntKind.wrap_i64]; omega
            have w1 : IntKind.u64.wrap p = p := by rw [IntKind.wrap_u64]; omega
            have w2 : IntKind.u64.wrap (p + z) = p + z := by rw [IntKind.wrap_u64]; omega
            have w3 : IntKind.u64.wrap (p + z + cy) = p + z + cy := by rw [IntKind.wrap_u64]; omega
            have q0 : 0 ≤ p + z + cy := by omega
            clear hc1 hc2 HAw HBw HA HB da db la lb hI hown hj
            go_wp2
            go_quiet (fail)
            have Hset := Lib.hid (fun v => row_set (row_drewN Hown.out nq) j v)
            go_wp2
            go_roundw
            case rel => exact ⟨k + 1, _, _, by go_num, rfl, by omega, by omega, by omega, Hset.out _, (below_drewN hB _).setCell (Nat.le_refl _) _, by simpa [World.setCell] using hz, stp.out⟩
            case measure => simp [intOf]; omega
          · have ek : k = m := by omega
            subst ek
            have hI := Lib.hid hI
            have hown := Lib.hid hown
            clear HA HB da db la lb
            go_wp2
            go_meet
            exact ⟨cy, o, rfl, c0, c1, hown.out, hB, hz, hI.out⟩
      case rest =>
        obtain ⟨cy, o, rfl, c0, c1, hown, hB, hz, hI⟩ := hcut
        obtain ⟨j, hj⟩ : ∃ j, t + m = j := ⟨_, rfl⟩
        have ej : (t : Int) + (m : Int) = (j : Int) := by omega
        have jN : (j : Int) < (N : Int) := by omega
        have cell := row_cell hown j (by omega)
        have fr : World.frozen? _ ⟨w.heap.size, j, none⟩ = false := hown.frozenAt j
        have fin := Lib.hid (times_out (by rw [lb.out]; exact hI) (show Limb cy from ⟨c0, c1⟩) (by rw [lb.out]; omega))
        rw [lb.out, hj] at fin
        have Hown := Lib.hid (row_set hown j cy)
        generalize digV o j = z at *
        clear HA HB da db la lb hI hown hj HO hP
        go_wp2
        go_roundw
        case rel => exact ⟨t + 1, _, by go_num, by omega, Hown.out, hB.setCell (Nat.le_refl _) _, by simpa [World.setCell] using hz, fin.out⟩
        case measure => simp [intOf]; omega
    · have fin := hP.v
      rw [natV_take_all (by rw [la.out]; omega)] at fin
      have HT := Lib.hid (trim_own hown hP.lim (by omega) hB fin)
      have hge : (n : Int) ≤ (t : Int) := by omega
      clear hown HA HB da db la lb hP fin
      go_wp2_with fail
      refine HT.out.mono ?_
      intro e w2 hp
      obtain ⟨A2, n2, c2, l2, rfl, hs2, hn2, hv2, fr2, hb2⟩ := hp
      have hp := Lib.hid (show NatPost (natV a * natV b) w (.returned (.slice A2 n2 c2)) w2 from ⟨A2, n2, c2, l2, rfl, hs2, hn2, hv2, fr2, hb2⟩)
      clear hs2 hn2 hv2 hb2
      go_wp2
      go_ret
      exact hp.out
end Go.Proofs.YtmjidpkddiinaaaDoor

/-
  The document's answers to layer 2 (tabardref2): Nat, Part, End, Add, Sub; the law's own nat, is.
-/
namespace Go.Proofs.YtmjidpkddiinaaaDoor
open Go.RowKit Go.Shelf

theorem Sl.drewN {w : World} {B : Nat} {A : Option Addr} {n c : Nat} {l : List Int} (h : Sl w B A n c l) (k : Nat) : Sl (w.drewN k) B A n c l := h.keep fun _ _ _ => rfl
/-- A contract that leaves the world alone, at a quiet region's call. -/
theorem qcall {P : Program} {f : FuncId} {args : Array Value} {w : World} {n : Nat} {v : Value} (h : Calls P f args (w.drewN n) fun e w' => e = .returned v ∧ w.drewN n = w') :
    Calls P f args (w.drewN n) fun e w'' => e = .returned v ∧ ∃ m, w'' = w.drewN m := h.mono fun _ _ ⟨he, hm⟩ => ⟨he, n, hm.symm⟩
theorem NatPost.mk {A : Option Addr} {n c : Nat} {l : List Int} {v : Int} {w w' : World} (hs : Sl w' w'.heap.size A n c l) (hn : Norm l) (hv : natV l = v) (fr : Fresh w.heap.size A) (hb : Below w.heap.size w w') : NatPost v w (.returned (.slice A n c)) w' := ⟨A, n, c, l, rfl, hs, hn, hv, fr, hb⟩

/-- A literal of limbs is a slice of the call's own. -/
theorem lit_own (w : World) (l : List Int) (n : Nat) (hn : l.length = n) (hm : n ≤ 1000) : (w.alloc (.cells (l.map (Value.int .u32)).toArray 66)).ownsRow w.heap.size 66 1 (.slice (some ⟨w.heap.size, 0, none⟩) n n) n (l.map (Value.int .u32)) := by
  have := World.ownsRow_lit (base := w.heap.size) (e := 66) (size := 1) w (l.map (Value.int .u32)).toArray n (Nat.le_refl _) (by unfold maxLen; omega) (by simpa using hn)
  simpa using this
theorem below_new (w : World) (o : Obj) : Below w.heap.size w (w.alloc o) := (Below.refl _ _).alloc (Nat.le_refl _) _

/-- 64 bits of a number. -/
def partI (v : Int) (i : Nat) : Int := v / pw (64 * (i : Int)) % 18446744073709551616
theorem part_dig {l : List Int} (hl : ∀ x ∈ l, Limb x) (i : Nat) : partI (natV l) i = digV l (2 * i + 1) * 4294967296 + digV l (2 * i) := by
  have d0 := natV_dig hl (2 * i)
  have d1 := natV_dig hl (2 * i + 1)
  rw [pw32, show 32 * ((2 * i : Nat) : Int) = 64 * (i : Int) by omega, Int.mul_comm, ← Int.ediv_ediv_of_nonneg (Int.le_of_lt (pw_pos _))] at d1
  rw [show 32 * ((2 * i : Nat) : Int) = 64 * (i : Int) by omega] at d0
  unfold partI
  generalize natV l / pw (64 * (i : Int)) = q at *
  omega

theorem val_nonneg {h l : Int} (h1 : Word h) (h2 : Word l) : 0 ≤ val h l ∧ val h l < 340282366920938463463374607431768211456 := by
  unfold val Word at *; omega
theorem part_val1 (h l : Int) (h1 : Word h) (h2 : Word l) : partI (val h l) 1 = h := by
  unfold partI val Word at *; rw [show pw (64 * ((1 : Nat) : Int)) = 18446744073709551616 from rfl]; omega
theorem part_val0 (h l : Int) (h2 : Word l) : partI (val h l) 0 = l := by
  unfold partI val Word at *; rw [show pw (64 * ((0 : Nat) : Int)) = 1 from rfl]; omega

/-- The law's own 'is', where it is so. -/
def TrueBelow (w : World) (e : Ending) (w' : World) : Prop := e = .returned (.bool true) ∧ Below w.heap.size w w'
/-- A natural and a bool. -/
def NatBPost (P : Int → Bool → Prop) (w : World) (e : Ending) (w' : World) : Prop :=
  ∃ A n c l o, e = .returned (.tuple #[.slice A n c, .bool o]) ∧ Sl w' w'.heap.size A n c l ∧ Norm l ∧ P (natV l) o ∧ Below w.heap.size w w'
theorem small_len {l : List Int} (hl : ∀ x ∈ l, Limb x) (hn : Norm l) (h : natV l < 115792089237316195423570985008687907853269984665640564039457584007913129639936) : l.length ≤ 8 :=
  norm_len hl hn (by rw [show pw (32 * ((8 : Nat) : Int)) = 115792089237316195423570985008687907853269984665640564039457584007913129639936 from rfl]; exact h)
theorem Sl.small {w : World} {B : Nat} {A : Option Addr} {n c : Nat} {l : List Int} (h : Sl w B A n c l) (hn : Norm l) (hv : natV l < 115792089237316195423570985008687907853269984665640564039457584007913129639936) : n ≤ 8 := by
  rw [← h.len]; exact small_len h.lim hn hv
theorem radd_mk {x y : Int} {w w' : World} {A : Option Addr} {n c : Nat} {l : List Int} {o : Bool} (hs : Sl w' w'.heap.size A n c l) (hn : Norm l) (hb : Below w.heap.size w w')
    (h : (o = true ∧ natV l + 340282366920938463463374607431768211456 = x + y) ∨ (o = false ∧ natV l = x + y ∧ natV l < 340282366920938463463374607431768211456)) :
    NatBPost (fun v o => (o = true ∧ v + 340282366920938463463374607431768211456 = x + y) ∨ (o = false ∧ v = x + y ∧ v < 340282366920938463463374607431768211456)) w (.returned (.tuple #[.slice A n c, .bool o])) w' := ⟨A, n, c, l, o, rfl, hs, hn, h, hb⟩

theorem rsub_mk {x y : Int} {w w' : World} {A : Option Addr} {n c : Nat} {l : List Int} {o : Bool} (hs : Sl w' w'.heap.size A n c l) (hn : Norm l) (hb : Below w.heap.size w w')
    (h : (o = true ∧ natV l = x - y + 340282366920938463463374607431768211456 ∧ x < y) ∨ (o = false ∧ natV l = x - y ∧ y ≤ x)) :
    NatBPost (fun v o => (o = true ∧ v = x - y + 340282366920938463463374607431768211456 ∧ x < y) ∨ (o = false ∧ v = x - y ∧ y ≤ x)) w (.returned (.tuple #[.slice A n c, .bool o])) w' := ⟨A, n, c, l, o, rfl, hs, hn, h, hb⟩
end Go.Proofs.YtmjidpkddiinaaaDoor

/-
  The document's naturals: Parts, bit by bit.
-/
namespace Go.Proofs.YtmjidpkddiinaaaDoor
open Go.RowKit Go.Shelf

theorem nat_or_bit (a r : Nat) (h : a / 2 ^ r % 2 = 0) : a ||| 2 ^ r = a + 2 ^ r := by
  have e : a = 2 ^ (r + 1) * (a / 2 ^ (r + 1)) + a % 2 ^ (r + 1) := (Nat.div_add_mod a (2 ^ (r + 1))).symm
  have lt : a % 2 ^ (r + 1) < 2 ^ r := by
    have h1 : a % 2 ^ (r + 1) / 2 ^ r = 0 := by
      rw [Nat.pow_succ, Nat.mod_mul_right_div_self]; exact h
    exact (Nat.div_eq_zero_iff_lt (Nat.two_pow_pos r)).1 h1
  generalize a / 2 ^ (r + 1) = A at *
  generalize a % 2 ^ (r + 1) = B at *
  subst e
  have lt2 : B + 2 ^ r < 2 ^ (r + 1) := by rw [Nat.pow_succ]; omega
  have e1 : B ||| 2 ^ r = B + 2 ^ r := by
    have := Nat.two_pow_add_eq_or_of_lt lt 1
    rw [Nat.mul_one] at this
    rw [Nat.or_comm, ← this, Nat.add_comm]
  have e3 : (2 ^ (r + 1) * A + B) ||| 2 ^ r = 2 ^ (r + 1) * A + (B + 2 ^ r) := by
    rw [Nat.two_pow_add_eq_or_of_lt (show B < 2 ^ (r + 1) by omega), Nat.or_assoc, e1, ← Nat.two_pow_add_eq_or_of_lt lt2]
  rw [e3]; omega
theorem u32_or_bit {a r : Int} (ha : Limb a) (h0 : 0 ≤ r) (h1 : r < 32) (h : a / pw r % 2 = 0) : bits .or .u32 a (pw r) = a + pw r := by
  obtain ⟨n, rfl⟩ := Int.eq_ofNat_of_zero_le ha.1
  obtain ⟨k, rfl⟩ := Int.eq_ofNat_of_zero_le h0
  have hp : pw (k : Int) = ((2 ^ k : Nat) : Int) := rfl
  have hb : (2 : Nat) ^ k < 4294967296 := by
    have := Nat.pow_lt_pow_right (a := 2) (by decide) (show k < 32 by omega)
    omega
  have hn : n < 4294967296 := by have := ha.2; omega
  rw [hp] at h ⊢
  have h' : n / 2 ^ k % 2 = 0 := by exact_mod_cast h
  rw [u32_or_nat n (2 ^ k) hn hb, nat_or_bit n k h']
  push_cast; rfl
/-- A bit that was 0 is set. -/
theorem natV_setbit {l : List Int} (hl : ∀ x ∈ l, Limb x) {i : Int} (h0 : 0 ≤ i) (hi : (i / 32).toNat < l.length) (hb : natV l / pw i % 2 = 0) :
    bits .or .u32 (digV l (i / 32).toNat) (pw (i % 32)) = digV l (i / 32).toNat + pw (i % 32) ∧ Limb (digV l (i / 32).toNat + pw (i % 32)) ∧ natV (l.set (i / 32).toNat (digV l (i / 32).toNat + pw (i % 32))) = natV l + pw i := by
  have hd := digV_limb hl (i / 32).toNat
  have hbit := bit_dig hl i h0
  have z : digV l (i / 32).toNat / pw (i % 32) % 2 = 0 := by
    unfold bitV at hbit
    have h1 : digV l (i / 32).toNat / pw (i % 32) % 2 ≠ 1 := fun e => by
      rw [e, hb] at hbit; simp at hbit
    omega
  have ep : pw i = pw (32 * ((i / 32).toNat : Int)) * pw (i % 32) := by rw [← pw_add _ _ (by omega) (by omega)]; congr 1; omega
  have e1 := u32_or_bit hd (by omega) (by omega) z
  have e2 : (4294967296 : Int) = pw (i % 32 + 1) * pw (31 - i % 32) := by rw [← pw_add _ _ (by omega) (by omega), show i % 32 + 1 + (31 - i % 32) = 32 by omega]; rfl
  have e3 := pw_succ (i % 32) (by omega)
  refine ⟨e1, ?_, ?_⟩
  · have hp := pw_pos (i % 32)
    have hq := pw_pos (31 - i % 32)
    unfold Limb at *
    generalize digV l (i / 32).toNat = x at *
    generalize pw (i % 32) = p at *
    generalize pw (i % 32 + 1) = P at *
    generalize pw (31 - i % 32) = q at *
    refine ⟨by omega, ?_⟩
    -- x + p ≤ P * (x / P) + P - 1 + ... : x's bit at p is 0
    have a1 := Int.mul_ediv_add_emod x P
    have a2 := Int.emod_lt_of_pos x (show 0 < P by omega)
    have a3 : x % P < p := by
      have b1 := Int.mul_ediv_add_emod x p
      have b2 := Int.emod_lt_of_pos x hp
      have b3 := Int.emod_nonneg x (show p ≠ 0 by omega)
      have b4 : x / p = 2 * (x / p / 2) := by omega
      have b5 : x = x % p + P * (x / p / 2) := by rw [e3, Int.mul_assoc, Int.mul_left_comm, ← b4]; rw [Int.mul_comm] at b1; rw [Int.mul_comm]; omega
      rw [b5, Int.add_mul_emod_self_left, Int.emod_eq_of_lt b3 (by omega)]; exact b2
    have a4 : x / P < q := Int.ediv_lt_of_lt_mul (by omega) (by rw [Int.mul_comm]; omega)
    have a5 := Int.mul_le_mul_of_nonneg_left (show x / P + 1 ≤ q by omega) (show 0 ≤ P by omega)
    rw [Int.mul_add] at a5
    omega
  · rw [natV_set _ hi, ← digV_lt hi, ep]
    rw [show digV l (i / 32).toNat + pw (i % 32) - digV l (i / 32).toNat = pw (i % 32) by omega]

/-- The quotient's bits from the k-th on, and what is left. -/
structure PartsAt (V d : Int) (N : Nat) (k : Int) (o : List Int) (R : Int) : Prop where
  len : o.length = N
  lim : ∀ x ∈ o, Limb x
  q : natV o = V / pw k / d * pw k
  r : R = V / pw k % d
theorem halves (V k : Int) (hk : 0 ≤ k) : V / pw k = 2 * (V / pw (k + 1)) + V / pw k % 2 := by
  rw [pw_succ k hk, Int.mul_comm 2 (pw k), ← Int.ediv_ediv_of_nonneg (Int.le_of_lt (pw_pos k))]; omega
theorem b2i_bit (V k : Int) : b2i (bitV V k) = V / pw k % 2 := by
  unfold b2i bitV
  by_cases c : V / pw k % 2 = 1
  · simp [c]
  · simp [c]; omega
theorem parts_bit {V d k : Int} {N : Nat} {o : List Int} {R : Int} (hk : 0 ≤ k) (h : PartsAt V d N (k + 1) o R) : natV o / pw k % 2 = 0 := by
  rw [h.q, pw_succ k hk, ← Int.mul_assoc, Int.mul_comm _ 2, Int.mul_ediv_cancel _ (Int.ne_of_gt (pw_pos k))]
  omega
theorem parts_keep {V d k : Int} {N : Nat} {o : List Int} {R S : Int} (hV : 0 ≤ V) (hd : 0 < d) (hk : 0 ≤ k) (h : PartsAt V d N (k + 1) o R) (hS : S = 2 * R + V / pw k % 2) (hlt : S < d) : PartsAt V d N k o S := by
  obtain ⟨h1, h2, h3, h4⟩ := h
  have e := halves V k hk
  have a := Int.mul_ediv_add_emod (V / pw (k + 1)) d
  rw [← h4] at a
  have r0 : 0 ≤ R := by rw [h4]; exact Int.emod_nonneg _ (by omega)
  have v0 : 0 ≤ V / pw k := Int.ediv_nonneg hV (Int.le_of_lt (pw_pos k))
  have e2 : V / pw k = S + d * (2 * (V / pw (k + 1) / d)) := by rw [Int.mul_left_comm]; omega
  have ep := pw_succ k hk
  generalize V / pw (k + 1) = Q at *
  refine ⟨h1, h2, ?_, ?_⟩
  · rw [h3, ep, e2, Int.add_mul_ediv_left _ _ (by omega), Int.ediv_eq_zero_of_lt (by omega) hlt, Int.zero_add, ← Int.mul_assoc, Int.mul_comm _ 2]
  · rw [e2, Int.add_mul_emod_self_left, Int.emod_eq_of_lt (by omega) hlt]
theorem parts_set {V d k : Int} {N : Nat} {o : List Int} {R S x : Int} (hV : 0 ≤ V) (hd : 0 < d) (hk : 0 ≤ k) (h : PartsAt V d N (k + 1) o R) (hS : S = 2 * R + V / pw k % 2) (hge : d ≤ S)
    (hx : Limb x) (hset : natV (o.set (k / 32).toNat x) = natV o + pw k) : PartsAt V d N k (o.set (k / 32).toNat x) (S - d) := by
  obtain ⟨h1, h2, h3, h4⟩ := h
  have e := halves V k hk
  have a := Int.mul_ediv_add_emod (V / pw (k + 1)) d
  rw [← h4] at a
  have r0 : 0 ≤ R := by rw [h4]; exact Int.emod_nonneg _ (by omega)
  have r1 : R < d := by rw [h4]; exact Int.emod_lt_of_pos _ hd
  have v0 : 0 ≤ V / pw k := Int.ediv_nonneg hV (Int.le_of_lt (pw_pos k))
  have lt : S - d < d := by omega
  have e2 : V / pw k = (S - d) + d * (2 * (V / pw (k + 1) / d) + 1) := by rw [Int.mul_add, Int.mul_left_comm]; omega
  have ep := pw_succ k hk
  generalize V / pw (k + 1) = Q at *
  refine ⟨by rw [List.length_set, h1], limbs_set h2 _ hx, ?_, ?_⟩
  · rw [hset, h3, ep, e2, Int.add_mul_ediv_left _ _ (by omega), Int.ediv_eq_zero_of_lt (by omega) lt, Int.zero_add, ← Int.mul_assoc, Int.mul_comm _ 2, Int.add_mul, Int.one_mul]
  · rw [e2, Int.add_mul_emod_self_left, Int.emod_eq_of_lt (by omega) lt]
theorem parts_start {V d : Int} {N : Nat} (hV : 0 ≤ V) (hlt : V < pw (32 * (N : Int))) : PartsAt V d N (32 * (N : Int)) (List.replicate N 0) 0 :=
  ⟨by simp, limbs_rep _, by rw [natV_rep, Int.ediv_eq_zero_of_lt hV hlt, Int.zero_ediv, Int.zero_mul], by rw [Int.ediv_eq_zero_of_lt hV hlt, Int.zero_emod]⟩

theorem row_below {w w' : World} {base g N : Nat} {xs : List Value} (h : w.ownsRow base 66 1 (.slice (some ⟨g, 0, none⟩) N N) N xs) (hb : Below w.heap.size w w') : w'.ownsRow base 66 1 (.slice (some ⟨g, 0, none⟩) N N) N xs := by
  have hlt := (h.lt _ rfl).2
  rcases h.2 with ⟨h', _⟩ | ⟨g', cap, cur, h', h1, h2, h3⟩
  · cases h'
  · obtain rfl : g' = g := by injection h' with e; injection e with e; injection e with e; exact e.symm
    exact ⟨h.1, .inr ⟨g', cap, cur, h', h1, (hb.block g' hlt).trans h2, h3⟩⟩
theorem row_sl {w : World} {base g N : Nat} {o : List Int} (h : w.ownsRow base 66 1 (.slice (some ⟨g, 0, none⟩) N N) N (o.map (Value.int .u32))) (hl : ∀ x ∈ o, Limb x) : Sl w w.heap.size (some ⟨g, 0, none⟩) N N o := by
  obtain ⟨A, c, e, hs, _⟩ := Sl.of_own h hl
  injection e with e1 e2 e3
  subst e1 e3
  exact hs
theorem Sl.far {w : World} {B g j : Nat} {A : Option Addr} {n c : Nat} {l : List Int} {u : Value} (h : Sl w B A n c l) (hf : Fresh (g + 1) A) : Sl (w.setCell ⟨g, j, none⟩ u) B A n c l := by
  refine ⟨h.len, h.cap, h.max, h.lim, h.nil, ?_⟩
  rcases h.rd with h0 | ⟨b, o, hA, hb, hc⟩
  · exact .inl h0
  · refine .inr ⟨b, o, hA, hb, fun i hi => ?_⟩
    have hbl : g + 1 ≤ b := hf _ hA
    rw [World.cell?_setCell_other _ _ _ _ (fun e => by have := congrArg Addr.block e; simp at this; omega)]
    exact hc i hi

theorem Sl.on' {w w' : World} {A : Option Addr} {n c : Nat} {l : List Int} (h : Sl w w.heap.size A n c l) (hb : Below w.heap.size w w') : Sl w' w'.heap.size A n c l := h.on hb
/-- What Parts answers: two naturals. -/
def PartsPost (x y : Int) (w : World) (e : Ending) (w' : World) : Prop :=
  ∃ A n c l A' n' c' l', e = .returned (.tuple #[.slice A n c, .slice A' n' c']) ∧ Sl w' w'.heap.size A n c l ∧ Norm l ∧ natV l = x ∧ Sl w' w'.heap.size A' n' c' l' ∧ Norm l' ∧ natV l' = y ∧ Below w.heap.size w w'

set_option maxHeartbeats 4000000 in
theorem rparts_any (A B : Option Addr) (n m c d : Nat) (a b : List Int) (w : World) (h : Sl w w.heap.size A n c a) (h' : Sl w w.heap.size B m d b) (hn : n ≤ 1000000) (hm : m ≤ 1000000) (hb0 : 0 < natV b) :
    Calls Tryd.prog 55 #[.slice A n c, .slice B m d] w (PartsPost (natV a / natV b) (natV a % natV b) w) := by
  have HA := Lib.hid h; have HB := Lib.hid h'
  have V0 := Lib.hid (natV_nonneg h.lim)
  have D0 := Lib.hid hb0
  have Dm : Hid (2 * natV b + 1 ≤ pw (32 * ((m + 1 : Nat) : Int))) := by
    have h1 := natV_lt h'.lim
    have h2 := pw32 m
    have h3 := pw_pos (32 * (m : Int))
    rw [h'.len] at h1
    unfold Hid; omega
  have s0 := Lib.hid (parts_start (V := natV a) (d := natV b) (N := n) (natV_nonneg h.lim) (by rw [← h.len]; exact natV_lt h.lim))
  clear h h' hb0
  go_enter Tryd.func55, Tryd.ntmps55
  go_wp2_with (at_make; go_loud (refine wpList_mk rfl _ _ rfl w.heap.size _ _ n rfl rfl rfl rfl (by omega) (Nat.le_refl _) ?_); intro w1 hown1 hb1 hz1)
  go_loopw [7, 8] (fun v i wr => ∃ (k : Int) (o : List Int) (A2 : Option Addr) (n2 c2 : Nat) (l2 : List Int), v = .slice A2 n2 c2 ∧ i = .int .i64 (k - 1) ∧ 0 ≤ k ∧ k ≤ 32 * (n : Int) ∧ wr.ownsRow w.heap.size 66 1 (.slice (some ⟨w.heap.size, 0, none⟩) n n) n (o.map (Value.int .u32)) ∧ Below w.heap.size w wr ∧ w.heap.size < wr.heap.size ∧
    Sl wr wr.heap.size A2 n2 c2 l2 ∧ Norm l2 ∧ Fresh (w.heap.size + 1) A2 ∧ PartsAt (natV a) (natV b) n k o (natV l2)) (fun _ i _ => (intOf i + 1).toNat)
  case atStart => exact ⟨32 * (n : Int), _, none, 0, 0, [], rfl, by go_num, by omega, by omega, hown1, hb1, hz1, Sl.nil_ _ _, norm_nil, (fun _ e => by cases e), s0.out⟩
  case round =>
    obtain ⟨k, o, A2, n2, c2, l2, rfl, rfl, k0, k1, hown, hB, hz, hs2, hn2, fr2, hP⟩ := hrel
    clear hown1 hb1 hz1 s0
    have bn : (n : Int) ≤ 1000000 := by omega
    by_cases hk : 1 ≤ k
    · obtain ⟨j, hj⟩ : ∃ j, k - 1 = j := ⟨_, rfl⟩
      have ek : k = j + 1 := by omega
      subst ek
      have j0 : 0 ≤ j := by omega
      have j1 : j < 32 * (n : Int) := by omega
      have l2m : n2 ≤ m + 1 := by
        rw [← hs2.len]
        refine norm_len hs2.lim hn2 ?_
        have := Dm.out; have r1 := Int.emod_lt_of_pos (natV a / pw (j + 1)) D0.out; rw [← hP.r] at r1; have := D0.out; omega
      have CB := Lib.hid (bit_any A n c a j wr (HA.out.on' hB) j0 (by omega))
      have CT := Lib.hid (fun mo => rtwice_any A2 n2 c2 l2 mo wr hs2 (by omega))
      have SB := Lib.hid (b2i_bit (natV a) j)
      have Hown := Lib.hid hown
      have hP := Lib.hid hP
      clear hown hs2 hn2 fr2 hk k0
      generalize bitV (natV a) j = bb at *
      have wj : j + 1 - 1 = j := by omega
      simp only [wj]
      clear wj hj
      go_wp2_with fail
      refine CB.out.mono ?_
      rintro e w' ⟨rfl, rfl⟩
      go_wp2_with fail
      refine (CT.out bb).mono ?_
      rintro e w2 ⟨A3, n3, c3, l3, rfl, hs3, hn3, hv3, fr3, hb3⟩
      have hS : Hid (natV l3 = 2 * natV l2 + natV a / pw j % 2) := by unfold Hid; rw [hv3, SB.out]
      have n3m : n3 ≤ m + 1 := by
        rw [← hs3.len]
        refine norm_len hs3.lim hn3 ?_
        have hr := hP.out.r
        have r1 := Int.emod_lt_of_pos (natV a / pw (j + 1)) D0.out
        rw [← hr] at r1
        have := Dm.out; rw [hS.out]; omega
      have hown2 := row_below Hown.out hb3
      have hB2 : Below w.heap.size w w2 := hB.trans (hb3.mono hB.size)
      have hz2 : w.heap.size < w2.heap.size := Nat.lt_of_lt_of_le hz hb3.size
      have fr3 : Fresh (w.heap.size + 1) A3 := fr3.mono hz
      clear hv3 hb3 Hown hB CB CT SB hz
      have Hown := Lib.hid hown2; clear hown2
      go_wp2_with fail
      refine (rcmp_any A3 B n3 m c3 d l3 b w2 hs3 (HB.out.on' hB2) (by omega) (by omega)).mono ?_
      rintro e w3 ⟨rfl, hb4⟩
      have hs3 := hs3.on hb4
      have hown3 := row_below Hown.out hb4
      have hB3 : Below w.heap.size w w3 := hB2.trans (hb4.mono hB2.size)
      have hz3 : w.heap.size < w3.heap.size := Nat.lt_of_lt_of_le hz2 hb4.size
      clear Hown hb4 hB2 hz2
      have Hown := Lib.hid hown3; clear hown3
      by_cases cc : natV l3 < natV b
      · have e1 : cmpI (natV l3) (natV b) = -1 := by unfold cmpI; rw [if_pos cc]
        have fin := Lib.hid (parts_keep V0.out D0.out j0 hP.out hS.out cc)
        rw [e1]
        clear e1 cc hP hS
        go_wp2
        go_roundw
        case rel => exact ⟨j, o, A3, n3, c3, l3, rfl, rfl, j0, by omega, Hown.out, hB3, hz3, hs3, hn3, fr3, fin.out⟩
        case measure => simp [intOf]; omega
      · have e1 : Hid (0 ≤ cmpI (natV l3) (natV b)) := by unfold cmpI Hid; rw [if_neg cc]; split <;> decide
        obtain ⟨r, hr⟩ : ∃ r, cmpI (natV l3) (natV b) = r := ⟨_, rfl⟩
        rw [hr] at e1
        rw [hr]
        have e1 := e1.out
        clear hr
        have CL := Lib.hid (rless_any A3 B n3 m c3 d l3 b w3 hs3 (HB.out.on' hB3) (by omega) (by omega) (by omega))
        have cc2 : Hid (natV b ≤ natV l3) := by unfold Hid; omega
        clear hs3
        go_wp2_with fail
        refine CL.out.mono ?_
        rintro e w4 ⟨A5, n5, c5, l5, rfl, hs5, hn5, hv5, fr5, hb5⟩
        have hv5 := Lib.hid hv5
        have hown4 := row_below Hown.out hb5
        have hB4 : Below w.heap.size w w4 := hB3.trans (hb5.mono hB3.size)
        have hz4 : w.heap.size < w4.heap.size := Nat.lt_of_lt_of_le hz3 hb5.size
        have fr5 : Fresh (w.heap.size + 1) A5 := fr5.mono hz3
        clear Hown hb5 hB3 hz3 CL
        have Hown := Lib.hid hown4
        have ql : (j / 32).toNat < n := by omega
        have cell := row_cell hown4 (j / 32).toNat ql
        have fz : World.frozen? _ ⟨w.heap.size, (j / 32).toNat, none⟩ = false := hown4.frozenAt (j / 32).toNat
        obtain ⟨b1, b2, b3⟩ := natV_setbit hP.out.lim j0 (by rw [hP.out.len]; exact ql) (parts_bit j0 hP.out)
        have fin := Lib.hid (parts_set V0.out D0.out j0 hP.out hS.out cc2.out b2 b3)
        have Hset := Lib.hid (row_set hown4 (j / 32).toNat (digV o (j / 32).toNat + pw (j % 32)))
        have B1 := Lib.hid b1
        obtain ⟨q, hq⟩ : ∃ q : Nat, (j / 32).toNat = q := ⟨_, rfl⟩
        have hq2 : j / 32 = (q : Int) := by omega
        rw [hq] at cell fz b1 b2 Hset B1 fin
        rw [hq] at ql
        have ql2 : (q : Int) < (n : Int) := by omega
        have hr0 : 0 ≤ j % 32 := by omega
        have hr1 : j % 32 < 32 := by omega
        have hp : (2 : Int) ^ (j % 32).toNat = pw (j % 32) := pw_eq _
        have hpl : pw (j % 32) < 4294967296 := by
          have := pw_mono (a := j % 32 + 1) (b := 32) (by omega) (by omega)
          have := pw_succ (j % 32) (by omega)
          rw [show pw 32 = 4294967296 from rfl] at *; omega
        have hp0 := pw_pos (j % 32)
        generalize pw (j % 32) = P at *
        generalize digV o q = z at *
        clear hown4 b1 b2 b3 hq
        go_wp2
        go_roundw
        case rel => exact ⟨j, _, A5, n5, c5, l5, rfl, rfl, j0, by omega, by rw [B1.out]; exact Hset.out, hB4.setCell (Nat.le_refl _) _, by simpa [World.setCell] using hz4, (hs5.far fr5).more (by simp [World.setCell]), hn5, fr5, by rw [hv5.out]; exact fin.out⟩
        case measure => simp [intOf]; omega
    · have ek : k = 0 := by omega
      subst ek
      obtain ⟨p1, p2, p3, p4⟩ := hP
      rw [show pw 0 = 1 from rfl, Int.ediv_one, Int.mul_one] at p3
      rw [show pw 0 = 1 from rfl, Int.ediv_one] at p4
      have n2m : n2 ≤ m + 1 := by
        rw [← hs2.len]
        refine norm_len hs2.lim hn2 ?_
        have := Dm.out; have r1 := Int.emod_lt_of_pos (natV a) D0.out; rw [← p4] at r1; have := D0.out; omega
      have HT1 := Lib.hid (rtrim_any _ n n o wr (row_sl hown p2) (by omega))
      have p4 := Lib.hid p4; have p3 := Lib.hid p3
      have hs2h := Lib.hid hs2
      clear hown hs2 HA HB
      go_wp2_with fail
      refine HT1.out.mono ?_
      rintro e w2 ⟨A3, n3, c3, l3, rfl, hs3, hn3, hv3, fr3, hb3⟩
      have hb2 := Lib.hid (rtrim_any A2 n2 c2 l2 w2 (hs2h.out.on hb3) (by omega))
      have hv3 := Lib.hid hv3
      go_wp2_with fail
      refine hb2.out.mono ?_
      rintro e w3 ⟨A4, n4, c4, l4, rfl, hs4, hn4, hv4, fr4, hb4⟩
      have fin : Hid (PartsPost (natV a / natV b) (natV a % natV b) w (.returned (.tuple #[.slice A3 n3 c3, .slice A4 n4 c4])) w3) :=
        ⟨A3, n3, c3, l3, A4, n4, c4, l4, rfl, hs3.on hb4, hn3, by rw [hv3.out, p3.out], hs4, hn4, by rw [hv4, p4.out], hB.trans ((hb3.mono hB.size).trans (hb4.mono (Nat.le_trans hB.size hb3.size)))⟩
      clear hs3 hs4 hn3 hn4 hv4 hb3 hb4 fr3 fr4 hB hs2h hb2
      go_wp2
      go_ret2
      exact fin.out
end Go.Proofs.YtmjidpkddiinaaaDoor

/-
  The document's naturals: Big, Shl, Shr; layer 2's Shl, Shr, Root.
-/
namespace Go.Proofs.YtmjidpkddiinaaaDoor
open Go.RowKit Go.Shelf

set_option maxHeartbeats 400000 in
theorem big_small (A : Option Addr) (n c : Nat) (l : List Int) (w : World) (h : Sl w w.heap.size A n c l) (hn : n ≤ 256) :
    Calls Tryd.prog 47 #[.slice A n c] w fun e w' => e = .returned (.bool false) ∧ Below w.heap.size w w' := by
  have HT := Lib.hid (rtrim_any A n c l w h (by omega))
  have hle := Lib.hid (show ∀ m : List Int, (∀ x ∈ m, Limb x) → Norm m → natV m = natV l → m.length ≤ n from fun m h1 h2 h3 => norm_len h1 h2 (by rw [h3, ← h.len]; exact natV_lt h.lim))
  clear h
  go_enter Tryd.func47, Tryd.ntmps47
  go_wp2_with fail
  refine HT.out.mono ?_
  rintro e w1 ⟨A1, n1, c1, l1, rfl, hs, hn1, hv, fr, hb⟩
  have n1b : n1 ≤ n := by have := hle.out l1 hs.lim hn1 hv; rw [hs.len] at this; exact this
  have n1c : (n1 : Int) ≤ 256 := by omega
  clear hs hn1 hv fr hle HT
  go_wp2
  go_ret
  exact ⟨by simp; omega, hb⟩

/-- A natural and an error's number 0. -/
def NatOPost (v : Int) (w : World) (e : Ending) (w' : World) : Prop :=
  ∃ A n c l, e = .returned (.tuple #[.slice A n c, .int .i64 0]) ∧ Sl w' w'.heap.size A n c l ∧ Norm l ∧ natV l = v ∧ Fresh w.heap.size A ∧ Below w.heap.size w w'
theorem NatOPost.mk {A : Option Addr} {n c : Nat} {l : List Int} {v : Int} {w w' : World} (hs : Sl w' w'.heap.size A n c l) (hn : Norm l) (hv : natV l = v) (fr : Fresh w.heap.size A) (hb : Below w.heap.size w w') : NatOPost v w (.returned (.tuple #[.slice A n c, .int .i64 0])) w' := ⟨A, n, c, l, rfl, hs, hn, hv, fr, hb⟩

theorem shl_eq {V n : Int} {j : Nat} (hj : n / 32 = (j : Int)) : pw (32 * (j : Int)) * V * pw (n % 32) = V * pw n := by
  have e : pw n = pw (32 * (j : Int)) * pw (n % 32) := by rw [← pw_add _ _ (by omega) (by omega)]; congr 1; omega
  rw [e, Int.mul_comm _ V, Int.mul_assoc]

set_option maxHeartbeats 4000000 in
theorem rshl_any (A : Option Addr) (n c : Nat) (a : List Int) (s : Int) (w : World) (h : Sl w w.heap.size A n c a) (hn : n ≤ 200) (s0 : 0 ≤ s) (s1 : s ≤ 1700) :
    Calls Tryd.prog 32 #[.slice A n c, .int .i64 s] w (NatOPost (natV a * pw s) w) := by
  have HBig := Lib.hid (big_small A n c a w h (by omega))
  have HA := Lib.hid h
  have hle := Lib.hid (show ∀ m : List Int, (∀ x ∈ m, Limb x) → Norm m → natV m = natV a → m.length ≤ n from fun m h1 h2 h3 => norm_len h1 h2 (by rw [h3, ← h.len]; exact natV_lt h.lim))
  have hlt : Hid (natV a < pw (32 * (n : Int))) := by rw [← h.len]; exact natV_lt h.lim
  clear h
  go_enter Tryd.func32, Tryd.ntmps32
  go_wp2_with fail
  refine HBig.out.mono ?_
  rintro e w1 ⟨rfl, hb1⟩
  have HT := Lib.hid (rtrim_any A n c a w1 (HA.out.on hb1) (by omega))
  clear HBig HA
  go_wp2_with fail
  refine HT.out.mono ?_
  rintro e w2 ⟨A2, n2, c2, l2, rfl, hs2, hn2, hv2, fr2, hb2⟩
  have n2b : n2 ≤ n := by have := hle.out l2 hs2.lim hn2 hv2; rw [hs2.len] at this; exact this
  have hv := Lib.hid hv2
  have hB2 : Below w.heap.size w w2 := hb1.trans (hb2.mono hb1.size)
  clear hv2 HT hb1 hb2 fr2
  by_cases c0 : n2 = 0
  · have fin := Lib.hid (NatOPost.mk (v := natV a * pw s) (w := w) (Sl.nil_ w2 w2.heap.size) norm_nil (by
      have e : l2 = [] := List.eq_nil_of_length_eq_zero (by rw [hs2.len]; exact c0)
      rw [← hv.out, e]; simp [natV]) (fun _ e => by cases e) hB2)
    have cz : ((n2 : Int) == 0) = true := by simp [c0]
    have c0 := Lib.hid c0
    clear hs2 hn2
    go_wp2
    go_ret2
    exact fin.out
  · have cz : ((n2 : Int) == 0) = false := by simpa using c0
    have HL := Lib.hid (rlen_any A2 n2 c2 l2 w2 hs2 (by omega))
    have HS := Lib.hid hs2
    clear hs2 c0
    go_wp2_with fail
    refine HL.out.mono ?_
    rintro e w3 ⟨L, hL, rfl, hb3⟩
    have hL1 : L ≤ 6400 := by
      have h1 := hL.ge
      have hv0 := hv.out
      by_cases z : natV l2 = 0
      · rw [hL.z z]; decide
      · have := h1 z
        have h3 := hlt.out
        have h4 : pw L < pw (32 * (n : Int) + 1) := by rw [pw_succ _ (by omega)]; omega
        have := pw_inj_le (a := L) (by omega) h4
        omega
    have hL0 := hL.n0
    have hB3 : Below w.heap.size w w3 := hB2.trans (hb3.mono hB2.size)
    obtain ⟨j, hj⟩ : ∃ j : Nat, s / 32 = (j : Int) := ⟨(s / 32).toNat, by omega⟩
    have hj2 : j ≤ 54 := by omega
    have HS3 := Lib.hid (HS.out.on hb3)
    have hn2l : Hid (∃ b o, A2 = some ⟨b, o, none⟩ ∧ b < w3.heap.size ∧ ∀ i : Nat, (h : i < l2.length) → w3.cell? ⟨b, o + i, none⟩ = some (.int .u32 l2[i])) := by
      rcases HS3.out.rd with h0 | h0
      · rw [h0] at cz; simp at cz
      · exact h0
    obtain ⟨b, o, rfl, hbl, hcl⟩ := hn2l.out
    have HC : Hid (∀ W, Below w3.heap.size w3 W → ∀ i : Nat, (h : i < l2.length) → W.cell? ((⟨b, o, none⟩ : Addr).add i) = some (.int .u32 l2[i])) := fun W hW i hi => by
      rw [Addr.add_lit, hW.cell (p := ⟨b, o + i, none⟩) hbl]; exact hcl i hi
    have HLen := Lib.hid HS3.out.len
    have HLim := Lib.hid HS3.out.lim
    have ts : s ≤ 8192 := by omega
    have ts2 : L + s ≤ 8192 := by omega
    clear hL HL HS hb3 hB2 hn2l hcl HS3
    go_wp2_with (first
      | (at_make; refine wpList_mk rfl _ _ rfl w3.heap.size _ _ j rfl rfl (by assumption) (by assumption) (by omega) (Nat.le_refl _) ?_; intro w4 hown4 hb4 hz4)
      | (at_builtin; refine wpList_app rfl _ _ rfl w3.heap.size _ j (List.replicate j 0) hown4 rfl ⟨b, o, none⟩ n2 c2 l2 rfl HLen.out (HC.out _ hb4) (by omega) hb4.size ?_; intro v5 w5 hown5 hb5))
    have lim5 : ∀ x ∈ List.replicate j (0 : Int) ++ l2, Limb x := fun x hx => by
      rcases List.mem_append.1 hx with h | h
      · exact limbs_rep j x h
      · exact HLim.out x h
    have val5 : natV (List.replicate j (0 : Int) ++ l2) = pw (32 * (j : Int)) * natV a := by
      rw [natV_append, natV_rep, List.length_replicate, hv.out]; omega
    obtain ⟨A5, c5, rfl, hs5, _⟩ := Sl.of_own hown5 lim5
    have hB5 : Below w.heap.size w w5 := hB3.trans ((hb4.trans hb5).mono hB3.size)
    have e0 : Hid (natV (List.replicate j (0 : Int) ++ l2) = pw (32 * (j : Int)) * natV a * pw ((0 : Nat) : Int)) := by
      rw [val5]; show _ = _ * 1; omega
    clear hown4 hb4 hz4 hown5 hb5 lim5 val5 HC
    have hm0 : 0 ≤ s % 32 := by omega
    go_loopw [7, 8] (fun v kk wr => ∃ (k : Nat) (A3 : Option Addr) (n3 c3 : Nat) (l3 : List Int), kk = .int .i64 (k : Int) ∧ (k : Int) ≤ s % 32 ∧ v = .slice A3 n3 c3 ∧ n3 ≤ 300 + k ∧ Sl wr wr.heap.size A3 n3 c3 l3 ∧ Below w.heap.size w wr ∧ Hid (natV l3 = pw (32 * (j : Int)) * natV a * pw (k : Int))) (fun _ kk _ => (s % 32 - intOf kk).toNat)
    case atStart => exact ⟨0, A5, _, c5, _, rfl, by omega, rfl, by omega, hs5, hB5, e0⟩
    case round =>
      obtain ⟨k, A3, n3, c3, l3, rfl, hk, rfl, hn3, hs3, hB, hv3⟩ := hrel
      clear hs5 hB5 e0
      by_cases hlt : (k : Int) < s % 32
      · have CT := Lib.hid (rtwice_any A3 n3 c3 l3 false wr hs3 (by omega))
        have hl3 := Lib.hid (natV_lt hs3.lim)
        have hl3b := Lib.hid hs3.len
        clear hs3
        go_wp2_with fail
        refine CT.out.mono ?_
        rintro e w6 ⟨A6, n6, c6, l6, rfl, hs6, hn6, hv6, fr6, hb6⟩
        have n6b : n6 ≤ n3 + 1 := by
          rw [← hs6.len]
          refine norm_len hs6.lim hn6 ?_
          have h1 := hl3.out
          rw [hl3b.out] at h1
          have h2 := pw32 n3
          have h3 := pw_pos (32 * (n3 : Int))
          rw [hv6]
          have : b2i false = 0 := rfl
          omega
        have e6 : Hid (natV l6 = pw (32 * (j : Int)) * natV a * pw ((k + 1 : Nat) : Int)) := by
          unfold Hid
          rw [hv6, hv3.out, show ((k + 1 : Nat) : Int) = (k : Int) + 1 by omega, pw_succ _ (by omega), show b2i false = 0 from rfl, Int.mul_left_comm]; omega
        have hB6 : Below w.heap.size w w6 := hB.trans (hb6.mono hB.size)
        clear hv6 hb6 hn6 fr6 CT hB
        go_wp2
        go_roundw
        case rel => exact ⟨k + 1, A6, n6, c6, l6, by go_num, by omega, rfl, by omega, hs6, hB6, e6⟩
        case measure => simp [intOf]; omega
      · have ek : (k : Int) = s % 32 := by omega
        have HT := Lib.hid (rtrim_any A3 n3 c3 l3 wr hs3 (by omega))
        clear hs3
        go_wp2_with fail
        refine HT.out.mono ?_
        rintro e w6 ⟨A6, n6, c6, l6, rfl, hs6, hn6, hv6, fr6, hb6⟩
        have fin := Lib.hid (NatOPost.mk (v := natV a * pw s) (w := w) hs6 hn6 (by rw [hv6, hv3.out, ek, shl_eq hj]) (fr6.mono hB.size) (hB.trans (hb6.mono hB.size)))
        clear hs6 hn6 hv6 fr6 hb6 hB ek
        go_wp2
        go_ret2
        exact fin.out

theorem mul_mod_le {x n : Int} (hn : 128 ≤ n) : x * pw n % 340282366920938463463374607431768211456 = 0 := by
  have e : pw n = 340282366920938463463374607431768211456 * pw (n - 128) := by
    have := pw_add 128 (n - 128) (by decide) (by omega)
    rw [show 128 + (n - 128) = n by omega, show pw 128 = 340282366920938463463374607431768211456 from rfl] at this; exact this
  rw [e, Int.mul_left_comm]; exact Int.mul_emod_right _ _
end Go.Proofs.YtmjidpkddiinaaaDoor

/-
  The document's Shr, Root.
-/
namespace Go.Proofs.YtmjidpkddiinaaaDoor
open Go.RowKit Go.Shelf

/-- The bits below the i-th, moved down by s. -/
structure ShrAt (V s : Int) (N : Nat) (i : Int) (o : List Int) (lost : Bool) : Prop where
  len : o.length = N
  lim : ∀ x ∈ o, Limb x
  v : natV o = V % pw i / pw s
  l : lost = decide (V % pw (min i s) ≠ 0)
theorem mod_succ (V i : Int) (hi : 0 ≤ i) : V % pw (i + 1) = V % pw i + pw i * (V / pw i % 2) := by
  have hp := pw_pos i
  have a := Int.mul_ediv_add_emod V (pw i)
  have b := Int.mul_ediv_add_emod (V / pw i) 2
  have r0 := Int.emod_nonneg V (show pw i ≠ 0 by omega)
  have r1 := Int.emod_lt_of_pos V hp
  have t : V = (V % pw i + pw i * (V / pw i % 2)) + pw (i + 1) * (V / pw i / 2) := by
    rw [pw_succ i hi, Int.mul_comm 2 (pw i), Int.mul_assoc]
    have : pw i * (V / pw i) = pw i * (2 * (V / pw i / 2)) + pw i * (V / pw i % 2) := by rw [← Int.mul_add, b]
    omega
  have lt : V % pw i + pw i * (V / pw i % 2) < pw (i + 1) := by
    rw [pw_succ i hi]
    have h2 : V / pw i % 2 = 0 ∨ V / pw i % 2 = 1 := by omega
    rcases h2 with h2 | h2 <;> rw [h2] <;> omega
  have ge : 0 ≤ V % pw i + pw i * (V / pw i % 2) := by
    have := Int.mul_nonneg (Int.le_of_lt hp) (show 0 ≤ V / pw i % 2 by omega)
    omega
  rw [t, Int.add_mul_emod_self_left, Int.emod_eq_of_lt ge lt]
  rw [← t]
theorem shr_no {V s i : Int} {N : Nat} {o : List Int} {lost : Bool} (hi : 0 ≤ i) (h : ShrAt V s N i o lost) (hb : V / pw i % 2 = 0) : ShrAt V s N (i + 1) o lost := by
  obtain ⟨h1, h2, h3, h4⟩ := h
  have e : V % pw (i + 1) = V % pw i := by rw [mod_succ V i hi, hb]; omega
  refine ⟨h1, h2, by rw [h3, e], ?_⟩
  rw [h4]
  rcases Int.lt_or_le i s with c | c
  · rw [show min i s = i by omega, show min (i + 1) s = i + 1 by omega, e]
  · rw [show min i s = s by omega, show min (i + 1) s = s by omega]
theorem shr_lost {V s i : Int} {N : Nat} {o : List Int} {lost : Bool} (hi : 0 ≤ i) (h : ShrAt V s N i o lost) (hb : V / pw i % 2 = 1) (hs : i < s) : ShrAt V s N (i + 1) o true := by
  obtain ⟨h1, h2, h3, h4⟩ := h
  have hp := pw_pos i
  have e : V % pw (i + 1) = V % pw i + pw i := by rw [mod_succ V i hi, hb]; omega
  have r0 := Int.emod_nonneg V (show pw i ≠ 0 by omega)
  have r1 := Int.emod_lt_of_pos V hp
  have m := pw_mono (a := i + 1) (b := s) (by omega) (by omega)
  have p2 := pw_succ i hi
  refine ⟨h1, h2, ?_, ?_⟩
  · rw [h3, e, Int.ediv_eq_zero_of_lt r0 (by omega), Int.ediv_eq_zero_of_lt (by omega) (by omega)]
  · rw [show min (i + 1) s = i + 1 by omega, e]
    have : V % pw i + pw i ≠ 0 := by omega
    simp [this]
theorem shr_bit {V s i : Int} {N : Nat} {o : List Int} {lost : Bool} (_hi : 0 ≤ i) (hs0 : 0 ≤ s) (h : ShrAt V s N i o lost) (hs : s ≤ i) : natV o / pw (i - s) % 2 = 0 := by
  have hp := pw_pos i
  have r0 := Int.emod_nonneg V (show pw i ≠ 0 by omega)
  have r1 := Int.emod_lt_of_pos V hp
  have e : pw i = pw (i - s) * pw s := by rw [← pw_add _ _ (by omega) hs0]; congr 1; omega
  have lt : V % pw i / pw s < pw (i - s) := Int.ediv_lt_of_lt_mul (pw_pos s) (by rw [← e]; exact r1)
  rw [h.v, Int.ediv_eq_zero_of_lt (Int.ediv_nonneg r0 (Int.le_of_lt (pw_pos s))) lt]; rfl
theorem shr_set {V s i x : Int} {N : Nat} {o : List Int} {lost : Bool} (hi : 0 ≤ i) (hs0 : 0 ≤ s) (h : ShrAt V s N i o lost) (hb : V / pw i % 2 = 1) (hs : s ≤ i) (hx : Limb x)
    (hset : natV (o.set ((i - s) / 32).toNat x) = natV o + pw (i - s)) : ShrAt V s N (i + 1) (o.set ((i - s) / 32).toNat x) lost := by
  obtain ⟨h1, h2, h3, h4⟩ := h
  have e : V % pw (i + 1) = V % pw i + pw s * pw (i - s) := by rw [mod_succ V i hi, hb, ← pw_add _ _ hs0 (by omega), show s + (i - s) = i by omega]; omega
  refine ⟨by rw [List.length_set, h1], limbs_set h2 _ hx, ?_, ?_⟩
  · rw [hset, h3, e, Int.add_mul_ediv_left _ _ (Int.ne_of_gt (pw_pos s))]
  · rw [h4, show min i s = s by omega, show min (i + 1) s = s by omega]
theorem shr_start (V s : Int) (N : Nat) (hs : 0 ≤ s) : ShrAt V s N 0 (List.replicate N 0) false := by
  refine ⟨by simp, limbs_rep _, ?_, ?_⟩
  · rw [natV_rep, show pw 0 = 1 from rfl, Int.emod_one, Int.zero_ediv]
  · rw [show min 0 s = 0 by omega, show pw 0 = 1 from rfl, Int.emod_one]; simp
theorem shr_end {V s : Int} {N : Nat} {o : List Int} {lost : Bool} (hV : 0 ≤ V) (hlt : V < pw (32 * (N : Int))) (h : ShrAt V s N (32 * (N : Int)) o lost) : natV o = V / pw s ∧ lost = decide (V % pw s ≠ 0) := by
  obtain ⟨h1, h2, h3, h4⟩ := h
  have e := Int.emod_eq_of_lt hV hlt
  rw [e] at h3
  refine ⟨h3, ?_⟩
  rw [h4]
  rcases Int.lt_or_le (32 * (N : Int)) s with c | c
  · rw [show min (32 * (N : Int)) s = 32 * (N : Int) by omega, e]
    have m := pw_mono (a := 32 * (N : Int)) (b := s) (by omega) (by omega)
    rw [Int.emod_eq_of_lt hV (by omega)]
  · rw [show min (32 * (N : Int)) s = s by omega]

/-- A natural, a bool, an error's number 0. -/
def NatBOPost (P : Int → Bool → Prop) (w : World) (e : Ending) (w' : World) : Prop :=
  ∃ A n c l o, e = .returned (.tuple #[.slice A n c, .bool o, .int .i64 0]) ∧ Sl w' w'.heap.size A n c l ∧ Norm l ∧ P (natV l) o ∧ Below w.heap.size w w'

set_option maxHeartbeats 4000000 in
theorem rshr_any (A : Option Addr) (n c : Nat) (a : List Int) (s : Int) (w : World) (h : Sl w w.heap.size A n c a) (hn : n ≤ 256) (s0 : 0 ≤ s) (s1 : s ≤ 9223372036854775807) :
    Calls Tryd.prog 34 #[.slice A n c, .int .i64 s] w (NatBOPost (fun v o => v = natV a / pw s ∧ o = decide (natV a % pw s ≠ 0)) w) := by
  have HBig := Lib.hid (big_small A n c a w h (by omega))
  have HA := Lib.hid h
  have hle := Lib.hid (show ∀ m : List Int, (∀ x ∈ m, Limb x) → Norm m → natV m = natV a → m.length ≤ n from fun m h1 h2 h3 => norm_len h1 h2 (by rw [h3, ← h.len]; exact natV_lt h.lim))
  clear h
  go_enter Tryd.func34, Tryd.ntmps34
  go_wp2_with fail
  refine HBig.out.mono ?_
  rintro e w1 ⟨rfl, hb1⟩
  have HT := Lib.hid (rtrim_any A n c a w1 (HA.out.on hb1) (by omega))
  clear HBig HA
  go_wp2_with fail
  refine HT.out.mono ?_
  rintro e w2 ⟨A2, n2, c2, l2, rfl, hs2, hn2, hv2, fr2, hb2⟩
  have n2b : n2 ≤ n := by have := hle.out l2 hs2.lim hn2 hv2; rw [hs2.len] at this; exact this
  have hB2 : Below w.heap.size w w2 := hb1.trans (hb2.mono hb1.size)
  have V0 := Lib.hid (natV_nonneg hs2.lim)
  have V1 : Hid (natV l2 < pw (32 * (n2 : Int))) := by rw [← hs2.len]; exact natV_lt hs2.lim
  have st0 := Lib.hid (shr_start (natV l2) s n2 s0)
  have hv2h := Lib.hid hv2
  clear hv2 HT hb1 hb2 fr2 hle
  have HS := Lib.hid hs2
  clear hs2 hn2
  go_wp2_with (at_make; refine wpList_mk rfl _ _ rfl w2.heap.size _ _ n2 rfl rfl rfl rfl (by omega) (Nat.le_refl _) ?_; intro w3 hown3 hb3 hz3)
  have hB3 : Below w.heap.size w w3 := hB2.trans (hb3.mono hB2.size)
  have HS3 := Lib.hid (HS.out.below hb3)
  go_loopw [9, 10] (fun lo kk wr => ∃ (k : Nat) (o : List Int) (lost : Bool), kk = .int .i64 (k : Int) ∧ (k : Int) ≤ 32 * (n2 : Int) ∧ lo = .bool lost ∧ wr.ownsRow w2.heap.size 66 1 (.slice (some ⟨w2.heap.size, 0, none⟩) n2 n2) n2 (o.map (Value.int .u32)) ∧ Below w2.heap.size w2 wr ∧ w2.heap.size < wr.heap.size ∧ ShrAt (natV l2) s n2 (k : Int) o lost) (fun _ kk _ => 32 * n2 - (intOf kk).toNat)
  case atStart => exact ⟨0, _, false, rfl, by omega, rfl, hown3, hb3, hz3, st0.out⟩
  case round =>
    obtain ⟨k, o, lost, rfl, hk, rfl, hown, hB, hz, hP⟩ := hrel
    clear hown3 hb3 hz3 st0 HS3 hB3
    have bn : (n2 : Int) ≤ 256 := by omega
    by_cases hlt : (k : Int) < 32 * (n2 : Int)
    · have CB := Lib.hid (bit_any A2 n2 c2 l2 (k : Int) wr ((HS.out.below hB).more hB.size) (by omega) (by omega))
      have hbv : Hid (bitV (natV l2) (k : Int) = decide (natV l2 / pw (k : Int) % 2 = 1)) := rfl
      have Hown := Lib.hid hown
      have hP := Lib.hid hP
      have k0 : (0 : Int) ≤ (k : Int) := by omega
      rcases Bool.eq_false_or_eq_true (bitV (natV l2) (k : Int)) with hb | hb
      · have hb1 : Hid (natV l2 / pw (k : Int) % 2 = 1) := by unfold Hid; rw [hbv.out] at hb; exact of_decide_eq_true hb
        rw [hb] at CB
        by_cases cs : (k : Int) < s
        · have fin := Lib.hid (shr_lost k0 hP.out hb1.out cs)
          have cs2 : ¬ s ≤ (k : Int) := by omega
          clear hown hb1 hbv hb
          go_wp2_with fail
          refine CB.out.mono ?_
          rintro e w' ⟨rfl, rfl⟩
          go_wp2
          go_roundw
          case rel => exact ⟨k + 1, o, true, by go_num, by omega, rfl, Hown.out, hB, hz, fin.out⟩
          case measure => simp [intOf]; omega
        · have cs2 : s ≤ (k : Int) := by omega
          have ql : (((k : Int) - s) / 32).toNat < n2 := by omega
          have cell := row_cell hown (((k : Int) - s) / 32).toNat ql
          have fz : World.frozen? _ ⟨w2.heap.size, (((k : Int) - s) / 32).toNat, none⟩ = false := hown.frozenAt _
          obtain ⟨b1, b2, b3⟩ := natV_setbit hP.out.lim (show 0 ≤ (k : Int) - s by omega) (by rw [hP.out.len]; exact ql) (shr_bit k0 s0 hP.out cs2)
          have fin := Lib.hid (shr_set k0 s0 hP.out hb1.out cs2 b2 b3)
          have Hset := Lib.hid (row_set hown (((k : Int) - s) / 32).toNat (digV o (((k : Int) - s) / 32).toNat + pw (((k : Int) - s) % 32)))
          have B1 := Lib.hid b1
          have d0 : 0 ≤ (k : Int) - s := by omega
          have d1 : (k : Int) - s ≤ 8192 := by omega
          obtain ⟨q, hq⟩ : ∃ q : Nat, (((k : Int) - s) / 32).toNat = q := ⟨_, rfl⟩
          have hq2 : ((k : Int) - s) / 32 = (q : Int) := by omega
          rw [hq] at cell fz b1 b2 Hset B1 fin
          rw [hq] at ql
          have ql2 : (q : Int) < (n2 : Int) := by omega
          have hr0 : 0 ≤ ((k : Int) - s) % 32 := by omega
          have hr1 : ((k : Int) - s) % 32 < 32 := by omega
          have hp : (2 : Int) ^ (((k : Int) - s) % 32).toNat = pw (((k : Int) - s) % 32) := pw_eq _
          have hpl : pw (((k : Int) - s) % 32) < 4294967296 := by
            have := pw_mono (a := ((k : Int) - s) % 32 + 1) (b := 32) (by omega) (by omega)
            have := pw_succ (((k : Int) - s) % 32) (by omega)
            rw [show pw 32 = 4294967296 from rfl] at *; omega
          have hp0 := pw_pos (((k : Int) - s) % 32)
          generalize pw (((k : Int) - s) % 32) = P at *
          generalize digV o q = z at *
          have HS := Lib.hid HS
          clear hown b1 b2 b3 hq hb1 hbv hb
          go_wp2_with fail
          refine CB.out.mono ?_
          rintro e w' ⟨rfl, rfl⟩
          go_wp2
          go_roundw
          case rel => exact ⟨k + 1, _, lost, by go_num, by omega, rfl, by rw [B1.out]; exact Hset.out, hB.setCell (Nat.le_refl _) _, by simpa [World.setCell] using hz, fin.out⟩
          case measure => simp [intOf]; omega
      · have hb0 : Hid (natV l2 / pw (k : Int) % 2 = 0) := by
          rw [hbv.out] at hb
          have := of_decide_eq_false hb
          unfold Hid; omega
        rw [hb] at CB
        have fin := Lib.hid (shr_no k0 hP.out hb0.out)
        clear hown hb0 hbv hb
        go_wp2_with fail
        refine CB.out.mono ?_
        rintro e w' ⟨rfl, rfl⟩
        go_wp2
        go_roundw
        case rel => exact ⟨k + 1, o, lost, by go_num, by omega, rfl, Hown.out, hB, hz, fin.out⟩
        case measure => simp [intOf]; omega
    · have ek : (k : Int) = 32 * (n2 : Int) := by omega
      rw [ek] at hP
      obtain ⟨e1, e2⟩ := shr_end V0.out V1.out hP
      have HT := Lib.hid (rtrim_any _ n2 n2 o wr (row_sl hown hP.lim) (by omega))
      have E1 := Lib.hid e1; have E2 := Lib.hid e2
      clear hown e1 e2 hP HS ek
      go_wp2_with fail
      refine HT.out.mono ?_
      rintro e w6 ⟨A6, n6, c6, l6, rfl, hs6, hn6, hv6, fr6, hb6⟩
      have fin : Hid (NatBOPost (fun v o => v = natV a / pw s ∧ o = decide (natV a % pw s ≠ 0)) w (.returned (.tuple #[.slice A6 n6 c6, .bool lost, .int .i64 0])) w6) :=
        ⟨A6, n6, c6, l6, lost, rfl, hs6, hn6, ⟨by rw [hv6, E1.out, hv2h.out], by rw [← hv2h.out]; exact E2.out⟩, hB2.trans ((hB.trans (hb6.mono hB.size)).mono hB2.size)⟩
      clear hs6 hn6 hv6 fr6 hb6 hB hB2 E1 E2
      go_wp2
      go_ret3
      exact fin.out

/-- The document's root. -/
def RRootPost (v : Int) (w : World) (e : Ending) (w' : World) : Prop := ∃ r : Int, e = .returned (.int .u64 r) ∧ Word r ∧ r * r ≤ v ∧ v < (r + 1) * (r + 1) ∧ Below w.heap.size w w'
theorem rroot_unique {r s v : Int} (hr : 0 ≤ r) (hs : 0 ≤ s) (h1 : r * r ≤ v) (h2 : v < (r + 1) * (r + 1)) (h3 : s * s ≤ v) (h4 : v < (s + 1) * (s + 1)) : r = s := by
  rcases Int.lt_trichotomy r s with c | c | c
  · have := Int.mul_le_mul (show r + 1 ≤ s by omega) (show r + 1 ≤ s by omega) (by omega) hs; omega
  · exact c
  · have := Int.mul_le_mul (show s + 1 ≤ r by omega) (show s + 1 ≤ r by omega) (by omega) hr; omega
end Go.Proofs.YtmjidpkddiinaaaDoor

