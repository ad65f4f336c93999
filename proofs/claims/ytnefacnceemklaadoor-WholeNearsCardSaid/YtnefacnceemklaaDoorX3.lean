import Derived.Test.YtnefacnceemklaaDoorX0
import Derived.Test.YtnefacnceemklaaDoorX1
import Derived.Laws.OwnMore
import Derived.Laws.AppendOwnNone
import Derived.OwnWalk
import Derived.Deep.AppendLies
import Derived.Deep.DeepCutAuto
import Derived.Deep.CutBlock
import Derived.LoopTactic
/-
  Lists of limbs of 32 bits: the number that a list means; right lists; digits.
-/
namespace Go.Proofs.YtnefacnceemklaaDoor
open Go.RowKit Go.Shelf

/-- A limb. -/
def Limb (x : Int) : Prop := 0 ≤ x ∧ x < 4294967296
/-- The number of a list, the lowest limb first. -/
def natV : List Int → Int
  | [] => 0
  | x :: r => x + 4294967296 * natV r
theorem natV_nonneg : ∀ {l : List Int}, (∀ x ∈ l, Limb x) → 0 ≤ natV l
  | [], _ => Int.le_refl _
  | x :: r, h => by
    have h1 := h x (by simp)
    have h2 := natV_nonneg (l := r) (fun y hy => h y (by simp [hy]))
    show 0 ≤ x + 4294967296 * natV r
    unfold Limb at h1; omega
theorem pw32 (k : Nat) : pw (32 * ((k + 1 : Nat) : Int)) = 4294967296 * pw (32 * (k : Int)) := by
  rw [show 32 * ((k + 1 : Nat) : Int) = 32 + 32 * (k : Int) by omega, pw_add 32 _ (by decide) (by omega)]; rfl
theorem natV_lt : ∀ {l : List Int}, (∀ x ∈ l, Limb x) → natV l < pw (32 * (l.length : Int))
  | [], _ => by decide
  | x :: r, h => by
    have h1 := h x (by simp)
    have h2 := natV_lt (l := r) (fun y hy => h y (by simp [hy]))
    rw [List.length_cons, pw32]
    show x + 4294967296 * natV r < _
    unfold Limb at h1; omega
theorem natV_append : ∀ (l m : List Int), natV (l ++ m) = natV l + pw (32 * (l.length : Int)) * natV m
  | [], m => by rw [List.nil_append, show pw (32 * (([] : List Int).length : Int)) = 1 from rfl, show natV [] = 0 from rfl]; omega
  | x :: r, m => by
    rw [List.cons_append, List.length_cons, pw32]
    show x + 4294967296 * natV (r ++ m) = x + 4294967296 * natV r + _
    rw [natV_append r m, Int.mul_add, ← Int.mul_assoc]; omega
theorem natV_zeros : ∀ (l : List Int), (∀ x ∈ l, x = 0) → natV l = 0
  | [], _ => rfl
  | x :: r, h => by
    have := natV_zeros r (fun y hy => h y (by simp [hy]))
    have := h x (by simp)
    show x + 4294967296 * natV r = 0
    omega
theorem natV_take_succ {l : List Int} {k : Nat} (h : k < l.length) : natV (l.take (k + 1)) = natV (l.take k) + pw (32 * (k : Int)) * l[k] := by
  rw [List.take_succ_eq_append_getElem h, natV_append]
  rw [List.length_take, Nat.min_eq_left (by omega)]
  show _ + _ * (l[k] + 4294967296 * 0) = _
  rw [show l[k] + 4294967296 * 0 = l[k] by omega]
theorem natV_take_le {l : List Int} (hl : ∀ x ∈ l, Limb x) (k : Nat) : natV (l.take k) ≤ natV l := by
  have e : natV l = natV (l.take k ++ l.drop k) := by rw [List.take_append_drop]
  rw [e, natV_append]
  have h := natV_nonneg (l := l.drop k) (fun x hx => hl x (List.mem_of_mem_drop hx))
  have := Int.mul_nonneg (Int.le_of_lt (pw_pos (32 * ((l.take k).length : Int)))) h
  omega
theorem limbs_take {l : List Int} (hl : ∀ x ∈ l, Limb x) (k : Nat) : ∀ x ∈ l.take k, Limb x := fun x hx => hl x (List.mem_of_mem_take hx)
/-- Where the rest is zeros, the head is the number. -/
theorem natV_core {l : List Int} {k : Nat} (h : ∀ i : Nat, k ≤ i → (hi : i < l.length) → l[i] = 0) : natV (l.take k) = natV l := by
  have e : natV l = natV (l.take k ++ l.drop k) := by rw [List.take_append_drop]
  rw [e, natV_append, natV_zeros (l.drop k), Int.mul_zero, Int.add_zero]
  intro x hx
  obtain ⟨i, hi, rfl⟩ := List.getElem_of_mem hx
  rw [List.getElem_drop]
  exact h _ (by omega) _

/-! ### Right lists -/
/-- No zero at the end. -/
def Norm (l : List Int) : Prop := ∀ j : Nat, (h : j < l.length) → j + 1 = l.length → l[j] ≠ 0
theorem norm_nil : Norm [] := fun j h _ => by simp at h
theorem norm_tail {x : Int} {r : List Int} (h : Norm (x :: r)) : Norm r := fun j hj e => by
  have := h (j + 1) (by simp; omega) (by simp; omega)
  simpa using this
theorem natV_pos : ∀ {l : List Int}, (∀ x ∈ l, Limb x) → Norm l → l ≠ [] → 0 < natV l
  | [], _, _, h => absurd rfl h
  | x :: r, hl, hn, _ => by
    have hx := hl x (by simp)
    have hr := natV_nonneg (l := r) (fun y hy => hl y (by simp [hy]))
    show 0 < x + 4294967296 * natV r
    by_cases c : r = []
    · subst c
      have : x ≠ 0 := by simpa using hn 0 (by simp) (by simp)
      unfold Limb at hx
      show 0 < x + 4294967296 * 0
      omega
    · have := natV_pos (l := r) (fun y hy => hl y (by simp [hy])) (norm_tail hn) c
      unfold Limb at hx
      omega
theorem norm_zero {l : List Int} (hl : ∀ x ∈ l, Limb x) (hn : Norm l) (h : natV l = 0) : l = [] := by
  by_cases c : l = []
  · exact c
  · have := natV_pos hl hn c; omega
/-- A number tells its right list. -/
theorem norm_unique : ∀ {l m : List Int}, (∀ x ∈ l, Limb x) → (∀ x ∈ m, Limb x) → Norm l → Norm m → natV l = natV m → l = m
  | [], m, _, hm, _, nm, e => (norm_zero hm nm e.symm).symm
  | x :: r, [], hl, _, nl, _, e => norm_zero hl nl e
  | x :: r, y :: s, hl, hm, nl, nm, e => by
    have hx := hl x (by simp)
    have hy := hm y (by simp)
    have e' : x + 4294967296 * natV r = y + 4294967296 * natV s := e
    unfold Limb at hx hy
    have exy : x = y := by omega
    have er : natV r = natV s := by omega
    rw [exy, norm_unique (fun z hz => hl z (by simp [hz])) (fun z hz => hm z (by simp [hz])) (norm_tail nl) (norm_tail nm) er]
/-- A right list of n limbs is not below 2^(32(n-1)). -/
theorem norm_ge : ∀ {l : List Int} {k : Nat}, (∀ x ∈ l, Limb x) → Norm l → k < l.length → pw (32 * (k : Int)) ≤ natV l
  | [], k, _, _, h => by simp at h
  | x :: r, 0, hl, hn, _ => by
    have := natV_pos hl hn (by simp)
    rw [show pw (32 * ((0 : Nat) : Int)) = 1 from rfl]; omega
  | x :: r, k + 1, hl, hn, h => by
    have hx := hl x (by simp)
    have := norm_ge (l := r) (k := k) (fun y hy => hl y (by simp [hy])) (norm_tail hn) (by simpa using h)
    rw [pw32]
    show _ ≤ x + 4294967296 * natV r
    unfold Limb at hx; omega
theorem pw_mono {a b : Int} (h0 : 0 ≤ a) (h : a ≤ b) : pw a ≤ pw b := by
  have e := pw_add a (b - a) h0 (by omega)
  rw [show a + (b - a) = b by omega] at e
  rw [e]
  have := Int.mul_le_mul_of_nonneg_left (show 1 ≤ pw (b - a) from pw_pos _) (Int.le_of_lt (pw_pos a))
  omega
theorem pw_inj_le {a b : Int} (hb : 0 ≤ b) (h : pw a < pw b) : a < b := by
  rcases Int.lt_or_le a b with c | c
  · exact c
  · have := pw_mono hb c; omega
theorem norm_len {l : List Int} {k : Nat} (hl : ∀ x ∈ l, Limb x) (hn : Norm l) (h : natV l < pw (32 * (k : Int))) : l.length ≤ k := by
  rcases Nat.lt_or_ge k l.length with c | c
  · have := norm_ge hl hn c; omega
  · exact c
/-- Of two right lists the longer one is greater. -/
theorem norm_lt_of_len {l m : List Int} (hl : ∀ x ∈ l, Limb x) (hm : ∀ x ∈ m, Limb x) (nm : Norm m) (h : l.length < m.length) : natV l < natV m := by
  have a := natV_lt hl
  have b := norm_ge hm nm h
  omega
/-- What is left of a list when the zeros at the end are gone. -/
theorem norm_take {l : List Int} {k : Nat} (hk : k ≤ l.length) (h : k = 0 ∨ ∃ j : Nat, ∃ hj : j < l.length, k = j + 1 ∧ l[j] ≠ 0) : Norm (l.take k) := by
  intro j hj e
  rw [List.length_take, Nat.min_eq_left hk] at e hj
  rcases h with h | ⟨i, hi, rfl, hx⟩
  · omega
  · have : i = j := by omega
    subst this
    rw [List.getElem_take]; exact hx

/-! ### Digits -/
/-- The i-th limb, 0 behind the end. -/
def digV (l : List Int) (i : Nat) : Int := l[i]?.getD 0
theorem digV_lt {l : List Int} {i : Nat} (h : i < l.length) : digV l i = l[i] := by unfold digV; rw [List.getElem?_eq_getElem h]; rfl
theorem digV_ge {l : List Int} {i : Nat} (h : l.length ≤ i) : digV l i = 0 := by unfold digV; rw [List.getElem?_eq_none h]; rfl
theorem digV_limb {l : List Int} (hl : ∀ x ∈ l, Limb x) (i : Nat) : Limb (digV l i) := by
  rcases Nat.lt_or_ge i l.length with c | c
  · rw [digV_lt c]; exact hl _ (List.getElem_mem c)
  · rw [digV_ge c]; exact ⟨by decide, by decide⟩
theorem natV_take_dig (l : List Int) (k : Nat) : natV (l.take (k + 1)) = natV (l.take k) + pw (32 * (k : Int)) * digV l k := by
  rcases Nat.lt_or_ge k l.length with c | c
  · rw [natV_take_succ c, digV_lt c]
  · rw [digV_ge c, List.take_of_length_le (by omega), List.take_of_length_le c]; omega
theorem natV_take_all {l : List Int} {k : Nat} (h : l.length ≤ k) : natV (l.take k) = natV l := by rw [List.take_of_length_le h]
theorem natV_split (l : List Int) (k : Nat) (h : k ≤ l.length) : natV l = natV (l.take k) + pw (32 * (k : Int)) * natV (l.drop k) := by
  have e : natV l = natV (l.take k ++ l.drop k) := by rw [List.take_append_drop]
  rw [e, natV_append, List.length_take, Nat.min_eq_left h]
theorem limbs_drop {l : List Int} (hl : ∀ x ∈ l, Limb x) (k : Nat) : ∀ x ∈ l.drop k, Limb x := fun x hx => hl x (List.mem_of_mem_drop hx)
theorem natV_take_lt {l : List Int} (hl : ∀ x ∈ l, Limb x) (k : Nat) : natV (l.take k) < pw (32 * (k : Int)) := by
  have := natV_lt (limbs_take hl k)
  have m := pw_mono (a := 32 * ((l.take k).length : Int)) (b := 32 * (k : Int)) (by omega) (by have := List.length_take_le k l; omega)
  omega
/-- A limb is a digit of the number. -/
theorem natV_dig {l : List Int} (hl : ∀ x ∈ l, Limb x) (i : Nat) : natV l / pw (32 * (i : Int)) % 4294967296 = digV l i := by
  rcases Nat.lt_or_ge i l.length with c | c
  · have e := natV_split l (i + 1) (by omega)
    rw [natV_take_succ c, pw32] at e
    have a := natV_take_lt hl i
    have a0 := natV_nonneg (limbs_take hl i)
    have hx := hl l[i] (List.getElem_mem c)
    have hp := pw_pos (32 * (i : Int))
    rw [digV_lt c]
    generalize pw (32 * (i : Int)) = p at *
    generalize natV (l.take i) = t at *
    generalize natV (l.drop (i + 1)) = d at *
    generalize l[i] = x at *
    rw [e, show t + p * x + 4294967296 * p * d = t + p * (x + 4294967296 * d) by rw [Int.mul_add, Int.mul_left_comm p 4294967296 d, Int.mul_assoc]; omega]
    rw [Int.add_mul_ediv_left _ _ (by omega), Int.ediv_eq_zero_of_lt a0 a]
    unfold Limb at hx; omega
  · have a := natV_lt hl
    have m := pw_mono (a := 32 * (l.length : Int)) (b := 32 * (i : Int)) (by omega) (by omega)
    rw [digV_ge c, Int.ediv_eq_zero_of_lt (natV_nonneg hl) (by omega)]; rfl
theorem natV_set : ∀ {l : List Int} {i : Nat} (x : Int) (h : i < l.length), natV (l.set i x) = natV l + pw (32 * (i : Int)) * (x - l[i])
  | [], i, x, h => by simp at h
  | y :: r, 0, x, _ => by
    show x + 4294967296 * natV r = y + 4294967296 * natV r + 1 * (x - y)
    omega
  | y :: r, i + 1, x, h => by
    have := natV_set (l := r) (i := i) x (by simpa using h)
    show y + 4294967296 * natV (r.set i x) = y + 4294967296 * natV r + _
    rw [this, pw32, Int.mul_add, Int.mul_assoc]
    simp only [List.getElem_cons_succ]
    omega
theorem limbs_set {l : List Int} (hl : ∀ x ∈ l, Limb x) (i : Nat) {x : Int} (hx : Limb x) : ∀ y ∈ l.set i x, Limb y := fun y hy => by
  rcases List.mem_or_eq_of_mem_set hy with h | h
  · exact hl y h
  · subst h; exact hx
theorem limbs_snoc {l : List Int} (hl : ∀ x ∈ l, Limb x) {x : Int} (hx : Limb x) : ∀ y ∈ l ++ [x], Limb y := fun y hy => by
  rcases List.mem_append.1 hy with h | h
  · exact hl y h
  · simp at h; subst h; exact hx
theorem natV_snoc (l : List Int) (x : Int) : natV (l ++ [x]) = natV l + pw (32 * (l.length : Int)) * x := by
  rw [natV_append]; show _ + _ * (x + 4294967296 * 0) = _; rw [show x + 4294967296 * 0 = x by omega]
theorem natV_rep (k : Nat) : natV (List.replicate k 0) = 0 := natV_zeros _ (fun _ hx => (List.mem_replicate.1 hx).2)
theorem limbs_rep (k : Nat) : ∀ x ∈ List.replicate k (0 : Int), Limb x := fun x hx => by rw [(List.mem_replicate.1 hx).2]; exact ⟨by decide, by decide⟩
end Go.Proofs.YtnefacnceemklaaDoor

/-
  The document's naturals (tabardref1): slices of limbs; Trim, limb, Bit.
-/
namespace Go.Proofs.YtnefacnceemklaaDoor
open Go.RowKit Go.Shelf

theorem Tryd.info71 : (Tryd.prog.info? 84).map (fun i => (i.zero, i.size, i.bytes)) = some (some (.int .u32 0), 1, 4) := by kernel_rfl

/-- A slice's value is the list of limbs; its cells lie below block B. -/
structure Sl (w : World) (B : Nat) (A : Option Addr) (n c : Nat) (l : List Int) : Prop where
  len : l.length = n
  cap : n ≤ c
  max : c ≤ maxLen
  lim : ∀ x ∈ l, Limb x
  nil : A = none → n = 0 ∧ c = 0
  rd : n = 0 ∨ ∃ b o, A = some ⟨b, o, none⟩ ∧ b < B ∧ ∀ i : Nat, (h : i < l.length) → w.cell? ⟨b, o + i, none⟩ = some (.int .u32 l[i])
theorem Sl.keep {w w' : World} {B : Nat} {A : Option Addr} {n c : Nat} {l : List Int} (h : Sl w B A n c l) (hk : ∀ b o, b < B → w'.cell? ⟨b, o, none⟩ = w.cell? ⟨b, o, none⟩) : Sl w' B A n c l :=
  ⟨h.len, h.cap, h.max, h.lim, h.nil, by
    rcases h.rd with h0 | ⟨b, o, hA, hb, hc⟩
    · exact .inl h0
    · exact .inr ⟨b, o, hA, hb, fun i hi => by rw [hk _ _ hb]; exact hc i hi⟩⟩
theorem Sl.below {w w' : World} {B : Nat} {A : Option Addr} {n c : Nat} {l : List Int} (h : Sl w B A n c l) (hb : Below B w w') : Sl w' B A n c l := h.keep fun b o hlt => hb.cell (p := ⟨b, o, none⟩) hlt
theorem Sl.more {w : World} {B B' : Nat} {A : Option Addr} {n c : Nat} {l : List Int} (h : Sl w B A n c l) (hB : B ≤ B') : Sl w B' A n c l :=
  ⟨h.len, h.cap, h.max, h.lim, h.nil, by
    rcases h.rd with h0 | ⟨b, o, hA, hb, hc⟩
    · exact .inl h0
    · exact .inr ⟨b, o, hA, by omega, hc⟩⟩
/-- The same slice in a later world, over that world's own heap. -/
theorem Sl.on {w w' : World} {A : Option Addr} {n c : Nat} {l : List Int} (h : Sl w w.heap.size A n c l) (hb : Below w.heap.size w w') : Sl w' w'.heap.size A n c l := (h.below hb).more hb.size
theorem Sl.nil_ (w : World) (B : Nat) : Sl w B none 0 0 [] := ⟨rfl, by omega, by simp [maxLen], by simp, fun _ => ⟨rfl, rfl⟩, .inl rfl⟩
/-- The slice lies in a block from B on. -/
def Fresh (B : Nat) (A : Option Addr) : Prop := ∀ ad, A = some ad → B ≤ ad.block
theorem Fresh.mono {B B' : Nat} {A : Option Addr} (h : Fresh B A) (hB : B' ≤ B) : Fresh B' A := fun ad e => Nat.le_trans hB (h ad e)
/-- A row of the call's own is such a slice. -/
theorem Sl.of_own {w : World} {base : Nat} {v : Value} {n : Nat} {l : List Int} (h : w.ownsRow base 84 1 v n (l.map (Value.int .u32))) (hl : ∀ x ∈ l, Limb x) :
    ∃ A c, v = .slice A n c ∧ Sl w w.heap.size A n c l ∧ Fresh base A := by
  have hn : l.length = n := by have := h.1; simpa using this
  rcases h.2 with ⟨rfl, rfl⟩ | ⟨g, cap, cur, rfl, hb, hh, h1, h2, h3, h4⟩
  · obtain rfl : l = [] := List.eq_nil_of_length_eq_zero hn
    exact ⟨none, 0, rfl, Sl.nil_ _ _, fun _ e => by cases e⟩
  · refine ⟨some ⟨g, 0, none⟩, cap, rfl, ⟨hn, h1, h2, hl, (fun e => by cases e), .inr ⟨g, 0, rfl, ?_, fun i hi => ?_⟩⟩, fun ad e => by cases e; exact hb⟩
    · rcases Nat.lt_or_ge g w.heap.size with hlt | hge
      · exact hlt
      · rw [Array.getElem?_eq_none hge] at hh; cases hh
    · have := h.cellAt i (by omega)
      rw [Nat.zero_add, this]
      simp [hi]

/-- What a function answers that makes the natural v: a right list of its limbs, in new memory. -/
def NatPost (v : Int) (w : World) (e : Ending) (w' : World) : Prop :=
  ∃ A n c l, e = .returned (.slice A n c) ∧ Sl w' w'.heap.size A n c l ∧ Norm l ∧ natV l = v ∧ Fresh w.heap.size A ∧ Below w.heap.size w w'

theorem u32_oneCell (l : List Int) : ∀ u ∈ l.map (Value.int .u32), u.oneCell' = true := fun u hu => by
  obtain ⟨x, _, rfl⟩ := List.mem_map.1 hu
  rfl

/-- The document's append of limbs onto a row of the call's own: what it leaves. -/
theorem wpList_app {w : World} {ops : Array Oper} {rest : List Oper} {o : Oper} {a : Act} {Q : Exit → Act → World → Prop} (hgd : o.guard = none) (s x : Operand)
    (ho : o.op = .call { callee := .builtin .append, args := #[s, x], argTypes := #[49, 49] })
    (base : Nat) (v : Value) (n : Nat) (l : List Int) (hown : w.ownsRow base 84 1 v n (l.map (Value.int .u32))) (hs : a.eval s = v)
    (ad : Addr) (m c : Nat) (news : List Int) (hx : a.eval x = .slice (some ad) m c) (hl : news.length = m) (hnews : ∀ i : Nat, (h : i < news.length) → w.cell? (ad.add i) = some (.int .u32 news[i]))
    (hb : n + m ≤ 2000000000) (hbase : base ≤ w.heap.size)
    (h : ∀ v' w', w'.ownsRow base 84 1 v' (n + m) ((l ++ news).map (Value.int .u32)) → Below base w w' → wpList Tryd.prog ops Q rest (a.put o.dst v') w') : wpList Tryd.prog ops Q (o :: rest) a w := by
  obtain ⟨i0, hi, hz0, hz1, hz2⟩ := info_parts Tryd.info71
  refine wpList_append_own _ hgd s x 49 ho base 84 i0 (.int .u32 0) 1 4 Tryd.underlying49 hi hz0 hz1 hz2 rfl (by decide) v n _ hs hown ad m c (news.map (Value.int .u32)) hx (by simpa using hl) ?_ (u32_oneCell _) (by unfold maxLen; omega) (by omega) hbase ?_
  · intro j u hu
    obtain ⟨hj, rfl⟩ := List.getElem?_eq_some_iff.1 hu
    simp at hj
    rw [hnews j hj]; simp
  · intro v' w' h1 h2 _
    refine h v' w' (by rw [List.map_append]; exact h1) ?_
    exact (Below.refl _ _).grown h2 hbase (fun k hk => (hown.lt k hk).1)
/-- One limb more, of a literal of one. -/
theorem wpList_app1 {w : World} {ops : Array Oper} {rest : List Oper} {o : Oper} {a : Act} {Q : Exit → Act → World → Prop} (hgd : o.guard = none) (s x : Operand)
    (ho : o.op = .call { callee := .builtin .append, args := #[s, x], argTypes := #[49, 49] })
    (base : Nat) (v : Value) (n : Nat) (l : List Int) (y : Int) (hown : w.ownsRow base 84 1 v n (l.map (Value.int .u32))) (hs : a.eval s = v)
    (hx : a.eval x = .slice (some ⟨w.heap.size, 0, none⟩) 1 1) (hb : n + 1 ≤ 2000000000) (hbase : base ≤ w.heap.size)
    (h : ∀ v' w', w'.ownsRow base 84 1 v' (n + 1) ((l ++ [y]).map (Value.int .u32)) → Below base w w' → wpList Tryd.prog ops Q rest (a.put o.dst v') w') : wpList Tryd.prog ops Q (o :: rest) a (w.alloc (.cells #[.int .u32 y] 84)) := by
  have h1 : Below base w (w.alloc (.cells #[.int .u32 y] 84)) := (Below.refl _ _).alloc hbase _
  refine wpList_app hgd s x ho base v n l (hown.alloc _) hs _ 1 1 [y] hx rfl ?_ hb (by simp; omega) fun v' w' h2 h3 => h v' w' h2 (h1.trans h3)
  intro i hi
  have : i = 0 := by simpa using hi
  subst this
  rw [Addr.add_lit, World.cell?_alloc_at _ _ _ _ rfl]; rfl

/-- What lies behind the call's own append of the first k limbs. -/
theorem trim_end {w w1 : World} {l : List Int} {k : Nat} {v : Value} (hl : ∀ x ∈ l, Limb x) (hk : k ≤ l.length) (hz : ∀ i : Nat, k ≤ i → (hi : i < l.length) → l[i] = 0) (hx : k = 0 ∨ ∃ j : Nat, ∃ hj : j < l.length, k = j + 1 ∧ l[j] ≠ 0)
    (hown : w1.ownsRow w.heap.size 84 1 v (0 + k) (([] ++ l.take k).map (Value.int .u32))) (hb : Below w.heap.size w w1) : NatPost (natV l) w (.returned v) w1 := by
  rw [Nat.zero_add, List.nil_append] at hown
  obtain ⟨A, c, rfl, hs, fr⟩ := Sl.of_own hown (limbs_take hl k)
  exact ⟨A, k, c, l.take k, rfl, hs, norm_take hk hx, natV_core hz, fr, hb⟩
theorem empty_own (w : World) : (w.alloc (.cells #[] 84)).ownsRow w.heap.size 84 1 (.slice (some ⟨w.heap.size, 0, none⟩) 0 0) 0 (([] : List Int).map (Value.int .u32)) :=
  World.ownsRow_lit w #[] 0 (Nat.le_refl _) (by simp [maxLen]) rfl

set_option maxHeartbeats 1000000 in
theorem rtrim_any (A : Option Addr) (n c : Nat) (l : List Int) (w : World) (h : Sl w w.heap.size A n c l) (hn : n ≤ 1000000000) :
    Calls Tryd.prog 80 #[.slice A n c] w (NatPost (natV l) w) := by
  obtain ⟨hlen, hcap, hmax, hlim, hnil, hrd⟩ := h
  have HL := Lib.hid hlim
  unfold maxLen at hmax
  have HE := Lib.hid (fun (k : Nat) (v : Value) (w1 : World) hk hz hx => @trim_end w w1 l k v hlim hk hz hx)
  have b1 : Below w.heap.size w (w.alloc (.cells #[] 84)) := (Below.refl _ _).alloc (Nat.le_refl _) _
  have B1 := Lib.hid b1; clear b1 hlim
  rcases hrd with h0 | ⟨b, o, rfl, hb, hc⟩
  · subst h0
    have fin := Lib.hid (fun (v : Value) (w1 : World) => HE.out 0 v w1 (by omega) (fun i _ hi => by omega) (.inl rfl))
    have fin2 := Lib.hid (show NatPost (natV l) w (.returned (.slice (some ⟨w.heap.size, 0, none⟩) 0 0)) (w.alloc (.cells #[] 84)) from fin.out _ _ (empty_own w) B1.out)
    clear hlen HE fin
    rcases A with _ | ad
    · obtain ⟨_, rfl⟩ := hnil rfl
      clear hnil
      go_enter Tryd.func80, Tryd.ntmps80
      go_wp2
      refine wp_loop_rounds 1 ?_
      rw [rounds_succ]
      go_wp2
      go_ret
      exact fin2.out
    · clear hnil
      have hk0 : (0 : Int) ≤ (c : Int) := by omega
      go_enter Tryd.func80, Tryd.ntmps80
      go_wp2
      refine wp_loop_rounds 1 ?_
      rw [rounds_succ]
      go_wp2
      go_ret
      exact fin2.out
  · have HC := Lib.hid hc
    subst hlen
    clear hc hnil
    go_enter Tryd.func80, Tryd.ntmps80
    go_wp2
    go_loopw [3] (fun n wr => ∃ k : Nat, k ≤ l.length ∧ n = .int .i64 (k : Int) ∧ Hid (∀ i : Nat, k ≤ i → (hi : i < l.length) → l[i] = 0) ∧ w = wr) (fun n _ => (intOf n).toNat)
    case atStart => exact ⟨l.length, Nat.le_refl _, rfl, fun i h1 h2 => by omega, rfl⟩
    case round =>
      obtain ⟨k, hk, rfl, hz, rfl⟩ := hrel
      have hkc : (k : Int) ≤ (c : Int) := by omega
      cases k with
      | zero =>
        have hk0 : (0 : Int) ≤ (c : Int) := by omega
        have fin := Lib.hid (fun (v : Value) (w1 : World) => HE.out 0 v w1 (by omega) hz.out (.inl rfl))
        clear HC hz hkc hk HE
        go_wp2
        go_ret
        exact fin.out _ _ (empty_own w) B1.out
      | succ j =>
        have hj : j < l.length := by omega
        have cell : w.cell? ⟨b, o + j, none⟩ = some (.int .u32 l[j]) := HC.out j hj
        have jl : (j : Int) < (l.length : Int) := by omega
        have hj0 : (0 : Int) < (j : Int) + 1 := by omega
        have ej : ((j + 1 : Nat) : Int) = (j : Int) + 1 := by omega
        have hkc2 : (j : Int) + 1 ≤ (c : Int) := by omega
        by_cases hx : l[j] = 0
        · have hz2 : Hid (∀ i : Nat, j ≤ i → (hi : i < l.length) → l[i] = 0) := fun i h1 h2 => by
            rcases Nat.eq_or_lt_of_le h1 with e | e
            · subst e; exact hx
            · exact hz.out i (by omega) h2
          rw [hx] at cell
          clear hx HC hz HE
          go_wp2
          go_roundw
          case rel => exact ⟨j, by omega, by go_num, hz2, by first | trivial | rfl⟩
          case measure => simp [intOf]
        · have fin := Lib.hid (fun (v : Value) (w1 : World) => HE.out (j + 1) v w1 (by omega) hz.out (.inr ⟨j, hj, rfl, hx⟩))
          have hxb : (l[j] == 0) = false := by simpa using hx
          have HN : Hid (∀ i : Nat, (h : i < (l.take (j + 1)).length) → (w.alloc (.cells #[] 84)).cell? ((⟨b, o, none⟩ : Addr).add i) = some (.int .u32 (l.take (j + 1))[i])) := fun i hi => by
            rw [Addr.add_lit, B1.out.cell (p := ⟨b, o + i, none⟩) hb]
            simp at hi
            rw [HC.out i (by omega)]; simp
          have HM := Lib.hid (show (l.take (j + 1)).length = j + 1 by simp; omega)
          generalize l[j] = x at *
          clear HC hz HE
          go_wp2_with (at_builtin; refine wpList_app rfl _ _ rfl w.heap.size _ 0 [] (empty_own w) rfl ⟨b, o, none⟩ (j + 1) c (l.take (j + 1)) rfl HM.out HN.out (by omega) (by simp) ?_; intro v1 w1 hown hb1)
          go_ret
          exact fin.out _ _ hown (B1.out.trans hb1)

set_option maxHeartbeats 400000 in
theorem limb_any (A : Option Addr) (n c : Nat) (l : List Int) (k : Nat) (w : World) (h : Sl w w.heap.size A n c l) (hk : (k : Int) ≤ 9223372036854775807) :
    Calls Tryd.prog 105 #[.slice A n c, .int .i64 (k : Int)] w fun e w' => e = .returned (.int .u64 (digV l k)) ∧ w = w' := by
  obtain ⟨hlen, hcap, hmax, hlim, hnil, hrd⟩ := h
  unfold maxLen at hmax
  by_cases c1 : k < n
  · rcases hrd with h0 | ⟨b, o, rfl, hb, hc⟩
    · omega
    · have cell : w.cell? ⟨b, o + k, none⟩ = some (.int .u32 l[k]) := hc k (by omega)
      have e := digV_lt (l := l) (i := k) (by omega)
      obtain ⟨x0, x1⟩ := digV_limb hlim k
      rw [← e] at cell
      generalize digV l k = x at *
      have hlt : (k : Int) < (n : Int) := by omega
      clear hc hnil hlim hlen e
      go_enter Tryd.func105, Tryd.ntmps105
      go_wp2
      go_ret
      exact ⟨rfl, rfl⟩
  · have e := digV_ge (l := l) (i := k) (by omega)
    have hlt : (n : Int) ≤ (k : Int) := by omega
    rw [e]
    clear e hnil hrd hlim hlen
    go_enter Tryd.func105, Tryd.ntmps105
    go_wp2
    go_ret
    exact ⟨rfl, rfl⟩
theorem limb_at (A : Option Addr) (n c : Nat) (l : List Int) (k d : Int) (w : World) (h : Sl w w.heap.size A n c l) (h0 : 0 ≤ k) (hk : k ≤ 9223372036854775807) (hd : digV l k.toNat = d) :
    Calls Tryd.prog 105 #[.slice A n c, .int .i64 k] w fun e w' => e = .returned (.int .u64 d) ∧ w = w' := by
  obtain ⟨k, rfl⟩ := Int.eq_ofNat_of_zero_le h0
  subst hd
  exact limb_any A n c l k w h hk

/-- The k-th bit of a number. -/
def bitV (v k : Int) : Bool := decide (v / pw k % 2 = 1)
theorem bit_dig {l : List Int} (hl : ∀ x ∈ l, Limb x) (k : Int) (h0 : 0 ≤ k) : bitV (natV l) k = (digV l (k / 32).toNat / pw (k % 32) % 2 == 1) := by
  have e : pw k = pw (32 * ((k / 32).toNat : Int)) * pw (k % 32) := by rw [← pw_add _ _ (by omega) (by omega)]; congr 1; omega
  have d := natV_dig hl (k / 32).toNat
  have hp := pw_pos (32 * ((k / 32).toNat : Int))
  have hj := pw_pos (k % 32)
  have e2 : (4294967296 : Int) = pw (k % 32) * (2 * pw (31 - k % 32)) := by
    have a := pw_add (k % 32) (31 - k % 32) (by omega) (by omega)
    rw [show k % 32 + (31 - k % 32) = 31 by omega, show pw 31 = 2147483648 from rfl] at a
    rw [Int.mul_left_comm, ← a]; rfl
  unfold bitV
  rw [e, ← Int.ediv_ediv_of_nonneg (Int.le_of_lt hp)]
  generalize natV l / pw (32 * ((k / 32).toNat : Int)) = q at *
  rw [← d]
  generalize pw (k % 32) = p at *
  generalize pw (31 - k % 32) = t at *
  have : q / p % 2 = q % 4294967296 / p % 2 := by
    have a := Int.mul_ediv_add_emod q 4294967296
    generalize q / 4294967296 = u at *
    generalize q % 4294967296 = r at *
    subst a
    rw [e2, show p * (2 * t) * u + r = r + p * (2 * (t * u)) by rw [Int.mul_assoc, Int.mul_assoc 2 t u]; omega, Int.add_mul_ediv_left _ _ (by omega)]
    omega
  rw [this]
  by_cases c : q % 4294967296 / p % 2 = 1 <;> simp [c]
set_option maxHeartbeats 400000 in
theorem bit_any (A : Option Addr) (n c : Nat) (l : List Int) (k : Int) (w : World) (h : Sl w w.heap.size A n c l) (h0 : 0 ≤ k) (hk : k ≤ 9223372036854775807) :
    Calls Tryd.prog 78 #[.slice A n c, .int .i64 k] w fun e w' => e = .returned (.bool (bitV (natV l) k)) ∧ w = w' := by
  obtain ⟨d, hd⟩ : ∃ d, digV l (k / 32).toNat = d := ⟨_, rfl⟩
  have HC := Lib.hid (limb_at A n c l (k / 32) d w h (by omega) (by omega) hd)
  have hw : Limb d := by rw [← hd]; exact digV_limb h.lim _
  have hb := bit_dig h.lim k h0
  rw [hd] at hb
  have hx : d / 2 ^ (k % 32).toNat = d / pw (k % 32) := by rw [pw_eq]
  have hx0 : 0 ≤ d / pw (k % 32) := Int.ediv_nonneg hw.1 (Int.le_of_lt (pw_pos _))
  generalize d / pw (k % 32) = x at *
  obtain ⟨d0, d1⟩ := hw
  have m0 : 0 ≤ k % 32 := by omega
  have HB := Lib.hid hb
  clear hb hd h
  go_enter Tryd.func78, Tryd.ntmps78
  go_wp2_with fail
  refine HC.out.mono ?_
  rintro e w' ⟨rfl, rfl⟩
  go_wp2
  go_ret
  exact ⟨by rw [HB.out]; rfl, rfl⟩
end Go.Proofs.YtnefacnceemklaaDoor

/-
  The document's naturals: Len, Cmp.
-/
namespace Go.Proofs.YtnefacnceemklaaDoor
open Go.RowKit Go.Shelf

theorem NatPost.on {v v' : Int} {w w1 : World} {e : Ending} {w2 : World} (h : NatPost v w1 e w2) (hb : Below w.heap.size w w1) (hv : v = v') : NatPost v' w e w2 := by
  obtain ⟨A, n, c, l, rfl, hs, hn, rfl, fr, hb2⟩ := h
  exact ⟨A, n, c, l, rfl, hs, hn, hv, fr.mono hb.size, hb.trans (hb2.mono hb.size)⟩

theorem below_drewN {B : Nat} {a w : World} (h : Below B a w) (n : Nat) : Below B a (w.drewN n) := ⟨h.os, h.tape, h.output, h.size, h.block⟩
/-- n is how many bits v has. -/
structure LenIs (v : Int) (n : Int) : Prop where
  n0 : 0 ≤ n
  v0 : 0 ≤ v
  z : v = 0 → n = 0
  lt : v < pw n
  ge : v ≠ 0 → pw n ≤ 2 * v
def NLenPost (v : Int) (w : World) (e : Ending) (w' : World) : Prop := ∃ n : Int, LenIs v n ∧ e = .returned (.int .i64 n) ∧ Below w.heap.size w w'

/-- j halvings of a top limb x. -/
structure HalfAt (x j y : Int) : Prop where
  j0 : 0 ≤ j
  j1 : j ≤ 32
  y : y = x / pw j
  last : j = 0 ∨ pw (j - 1) ≤ x
theorem pw_succ (j : Int) (h : 0 ≤ j) : pw (j + 1) = 2 * pw j := by rw [Int.add_comm, pw_add 1 j (by decide) h]; rfl
theorem half_step {x j y : Int} (hx : Limb x) (h : HalfAt x j y) (hy : 0 < y) : HalfAt x (j + 1) (y / 2) := by
  obtain ⟨j0, j1, rfl, _⟩ := h
  have hp := pw_pos j
  have g : pw j ≤ x := by
    rcases Int.lt_or_le x (pw j) with c | c
    · rw [Int.ediv_eq_zero_of_lt hx.1 c] at hy; omega
    · exact c
  have lt : j < 32 := by
    refine pw_inj_le (by decide) ?_
    rw [show pw 32 = 4294967296 from rfl]; unfold Limb at hx; omega
  refine ⟨by omega, by omega, ?_, .inr (by rw [show j + 1 - 1 = j by omega]; exact g)⟩
  rw [pw_succ j j0, Int.mul_comm, Int.ediv_ediv_of_nonneg (Int.le_of_lt hp)]
theorem half_end {l : List Int} {j y : Int} (hl : ∀ x ∈ l, Limb x) (hn : Norm l) (hlen : l.length ≠ 0) (h : HalfAt (digV l (l.length - 1)) j y) (hy : ¬ 0 < y) : LenIs (natV l) (32 * ((l.length : Int) - 1) + j) := by
  obtain ⟨m, hm⟩ : ∃ m, l.length = m + 1 := ⟨l.length - 1, by omega⟩
  have e1 : l.length - 1 = m := by omega
  have e2 : (l.length : Int) - 1 = (m : Int) := by omega
  rw [e1] at h
  rw [e2]
  have hd := digV_limb hl m
  have hnz : digV l m ≠ 0 := by rw [digV_lt (by omega)]; exact hn m (by omega) (by omega)
  have hv : natV l = natV (l.take m) + pw (32 * (m : Int)) * digV l m := by rw [← natV_take_dig, natV_take_all (by omega)]
  have t0 := natV_nonneg (limbs_take hl m)
  have t1 := natV_take_lt hl m
  obtain ⟨j0, _, rfl, last⟩ := h
  have hp := pw_pos (32 * (m : Int))
  have hj := pw_pos j
  rw [hv]
  generalize digV l m = x at *
  generalize natV (l.take m) = t at *
  have hx : x < pw j := by
    rcases Int.lt_or_le x (pw j) with c | c
    · exact c
    · exact absurd (show 0 < x / pw j by have := Int.le_ediv_of_mul_le hj (show 1 * pw j ≤ x by omega); omega) hy
  have x0 : 0 < x := by unfold Limb at hd; omega
  have jp : 0 < j := by
    rcases Int.lt_or_le 0 j with c | c
    · exact c
    · rw [pw_nonpos c] at hx; omega
  have g : pw j ≤ 2 * x := by
    rcases last with c | c
    · omega
    · have := pw_succ (j - 1) (by omega); rw [show j - 1 + 1 = j by omega] at this; omega
  have ep : pw (32 * (m : Int) + j) = pw (32 * (m : Int)) * pw j := pw_add _ _ (by omega) j0
  have p1 : 0 < pw (32 * (m : Int)) * x := Int.mul_pos hp x0
  refine ⟨by omega, by omega, fun e => by omega, ?_, fun _ => ?_⟩
  · rw [ep]
    have := Int.mul_le_mul_of_nonneg_left (show x + 1 ≤ pw j by omega) (Int.le_of_lt hp)
    rw [Int.mul_add] at this; omega
  · rw [ep]
    have := Int.mul_le_mul_of_nonneg_left g (Int.le_of_lt hp)
    rw [Int.mul_left_comm] at this; omega

set_option maxHeartbeats 1000000 in
theorem rlen_any (A : Option Addr) (n c : Nat) (l : List Int) (w : World) (h : Sl w w.heap.size A n c l) (hn : n ≤ 100000000) :
    Calls Tryd.prog 82 #[.slice A n c] w (NLenPost (natV l) w) := by
  have HT := Lib.hid (rtrim_any A n c l w h (by omega))
  have hle := Lib.hid (show ∀ m : List Int, (∀ x ∈ m, Limb x) → Norm m → natV m = natV l → m.length ≤ n from fun m h1 h2 h3 => norm_len h1 h2 (by rw [h3, ← h.len]; exact natV_lt h.lim))
  clear h
  go_enter Tryd.func82, Tryd.ntmps82
  go_wp2_with fail
  refine HT.out.mono ?_
  rintro e w1 ⟨A1, n1, c1, l1, rfl, hs, hn1, hv, fr, hb⟩
  have n1b : n1 ≤ n := by have := hle.out l1 hs.lim hn1 hv; rw [hs.len] at this; exact this
  have hvh := Lib.hid hv
  clear hv hle HT
  by_cases c0 : n1 = 0
  · have cz : ((n1 : Int) == 0) = true := by simp [c0]
    have fin : Hid (LenIs (natV l) 0) := by
      have e : l1 = [] := List.eq_nil_of_length_eq_zero (by rw [hs.len]; exact c0)
      rw [← hvh.out, e]
      exact ⟨by decide, by decide, fun _ => rfl, by decide, fun h => absurd rfl h⟩
    have cz := Lib.hid c0
    clear c0 hs
    go_wp2
    go_ret
    exact ⟨0, fin.out, rfl, hb⟩
  · have cz : ((n1 : Int) == 0) = false := by simpa using c0
    obtain ⟨hlen, hcap, hmax, hlim, hnil, hrd⟩ := hs
    unfold maxLen at hmax
    rcases hrd with h0 | ⟨b, o, rfl, hb2, hc⟩
    · exact absurd h0 c0
    · obtain ⟨m, rfl⟩ : ∃ m, n1 = m + 1 := ⟨n1 - 1, by omega⟩
      have cell : w1.cell? ⟨b, o + m, none⟩ = some (.int .u32 (digV l1 m)) := by rw [hc m (by omega), digV_lt]
      have hx := digV_limb hlim m
      have em : ((m + 1 : Nat) : Int) = (m : Int) + 1 := by omega
      have hlt : (m : Int) < ((m + 1 : Nat) : Int) := by omega
      have es : ((m + 1 : Nat) : Int) - 1 = (m : Int) := by omega
      have fin : Hid (∀ j y, HalfAt (digV l1 m) j y → y ≤ 0 → LenIs (natV l) (32 * (m : Int) + j)) := fun j y h1 h2 => by
        rw [← hvh.out]
        have := half_end (l := l1) (j := j) (y := y) hlim hn1 (by omega) (by rw [show l1.length - 1 = m by omega]; exact h1) (by omega)
        rw [show (l1.length : Int) - 1 = (m : Int) by omega] at this
        exact this
      have st := Lib.hid (fun j y => @half_step (digV l1 m) j y hx)
      have s0 : Hid (HalfAt (digV l1 m) 0 (digV l1 m)) := ⟨by decide, by decide, by rw [show pw 0 = 1 from rfl, Int.ediv_one], .inl rfl⟩
      obtain ⟨x0, x1⟩ := hx
      generalize digV l1 m = x at *
      clear hc hnil hlim hlen c0 hvh hn1
      go_wp2
      go_loopw [4, 5] (fun n x' wr => ∃ j y : Int, n = .int .i64 (32 * (m : Int) + j) ∧ x' = .int .u32 y ∧ 0 ≤ j ∧ j ≤ 32 ∧ 0 ≤ y ∧ y ≤ 4294967295 ∧ HalfAt x j y ∧ w1 = wr) (fun _ x' _ => (intOf x').toNat)
      case atStart => exact ⟨0, x, by go_num, rfl, by decide, by decide, x0, by omega, s0.out, rfl⟩
      case round =>
        obtain ⟨j, y, rfl, rfl, j0, j1, y0, y1, hh, rfl⟩ := hrel
        by_cases hy : 0 < y
        · have hs := st.out j y hh hy
          clear st s0 fin
          have hb0 := hs.j1
          go_wp2
          go_roundw
          case rel => exact ⟨j + 1, y / 2, by go_num, rfl, by omega, hb0, by omega, by omega, hs, by first | trivial | rfl⟩
          case measure => simp [intOf]; omega
        · have := fin.out j y hh (by omega)
          clear st s0 fin
          go_wp2
          go_ret
          exact ⟨_, this, rfl, hb⟩

/-- What the comparison of two naturals answers. -/
def NCmpPost (x y : Int) (w : World) (e : Ending) (w' : World) : Prop := e = .returned (.int .i64 (cmpI x y)) ∧ Below w.heap.size w w'
theorem cmp_mk {x y r : Int} {w : World} {w' : World} (h : cmpI x y = r) (hb : Below w.heap.size w w') : NCmpPost x y w (.returned (.int .i64 r)) w' := ⟨by rw [h], hb⟩
theorem cmp_len {a b : List Int} (ha : ∀ x ∈ a, Limb x) (hb : ∀ x ∈ b, Limb x) (na : Norm a) (nb : Norm b) (h : a.length ≠ b.length) : cmpI (natV a) (natV b) = if a.length < b.length then -1 else 1 := by
  unfold cmpI
  by_cases c : a.length < b.length
  · rw [if_pos (norm_lt_of_len ha hb nb c), if_pos c]
  · have := norm_lt_of_len hb ha na (show b.length < a.length by omega)
    rw [if_neg (by omega), if_neg (by omega), if_neg c]
/-- The lists are alike from the k-th limb on. -/
def Alike (a b : List Int) (k : Nat) : Prop := a.drop k = b.drop k
theorem alike_step {a b : List Int} {k : Nat} (h : Alike a b (k + 1)) (h1 : k < a.length) (h2 : k < b.length) (e : digV a k = digV b k) : Alike a b k := by
  unfold Alike at *
  rw [List.drop_eq_getElem_cons h1, List.drop_eq_getElem_cons h2, h]
  rw [digV_lt h1, digV_lt h2] at e
  rw [e]
theorem alike_lt {a b : List Int} {k : Nat} (ha : ∀ x ∈ a, Limb x) (hb : ∀ x ∈ b, Limb x) (h : Alike a b (k + 1)) (h1 : k < a.length) (h2 : k < b.length) (e : digV a k < digV b k) : natV a < natV b := by
  have p := natV_split a (k + 1) (by omega)
  have q := natV_split b (k + 1) (by omega)
  unfold Alike at h
  rw [natV_take_dig] at p q
  rw [h] at p
  have a1 := natV_take_lt ha k
  have b0 := natV_nonneg (limbs_take hb k)
  have hp := pw_pos (32 * (k : Int))
  have := Int.mul_le_mul_of_nonneg_left (show digV a k + 1 ≤ digV b k by omega) (Int.le_of_lt hp)
  rw [Int.mul_add] at this
  omega
theorem alike_cmp {a b : List Int} {k : Nat} (ha : ∀ x ∈ a, Limb x) (hb : ∀ x ∈ b, Limb x) (h : Alike a b (k + 1)) (h1 : k < a.length) (h2 : k < b.length) (e : digV a k ≠ digV b k) : cmpI (natV a) (natV b) = if digV a k < digV b k then -1 else 1 := by
  unfold cmpI
  by_cases c : digV a k < digV b k
  · rw [if_pos (alike_lt ha hb h h1 h2 c), if_pos c]
  · have := alike_lt hb ha (k := k) (show Alike b a (k + 1) from Eq.symm h) h2 h1 (by omega)
    rw [if_neg (by omega), if_neg (by omega), if_neg c]
theorem alike_zero {a b : List Int} (h : Alike a b 0) : cmpI (natV a) (natV b) = 0 := by
  have : a = b := h
  subst this; unfold cmpI; rw [if_neg (by omega), if_pos rfl]
theorem alike_len {a b : List Int} (h : a.length = b.length) : Alike a b a.length := by
  unfold Alike; rw [List.drop_length, h, List.drop_length]

set_option maxHeartbeats 2000000 in
theorem rcmp_any (A B : Option Addr) (n m c d : Nat) (l k : List Int) (w : World) (h : Sl w w.heap.size A n c l) (h' : Sl w w.heap.size B m d k) (hn : n ≤ 100000000) (hm : m ≤ 100000000) :
    Calls Tryd.prog 50 #[.slice A n c, .slice B m d] w (NCmpPost (natV l) (natV k) w) := by
  have HT := Lib.hid (rtrim_any A n c l w h (by omega))
  have hle := Lib.hid (show ∀ x : List Int, (∀ y ∈ x, Limb y) → Norm x → natV x = natV l → x.length ≤ n from fun x h1 h2 h3 => norm_len h1 h2 (by rw [h3, ← h.len]; exact natV_lt h.lim))
  have hle' := Lib.hid (show ∀ x : List Int, (∀ y ∈ x, Limb y) → Norm x → natV x = natV k → x.length ≤ m from fun x h1 h2 h3 => norm_len h1 h2 (by rw [h3, ← h'.len]; exact natV_lt h'.lim))
  have H' := Lib.hid h'
  clear h h'
  go_enter Tryd.func50, Tryd.ntmps50
  go_wp2_with fail
  refine HT.out.mono ?_
  rintro e w1 ⟨A1, n1, c1, l1, rfl, hs, hn1, hv, fr, hb⟩
  have hvh := Lib.hid hv
  have n1b : n1 ≤ n := by have := hle.out l1 hs.lim hn1 hv; rw [hs.len] at this; exact this
  clear hv hle HT
  go_wp2_with fail
  refine (rtrim_any B m d k w1 (H'.out.on hb) (by omega)).mono ?_
  rintro e w2 ⟨A2, n2, c2, l2, rfl, hs2, hn2, hv2, fr2, hb2⟩
  have hvh2 := Lib.hid hv2
  have n2b : n2 ≤ m := by have := hle'.out l2 hs2.lim hn2 hv2; rw [hs2.len] at this; exact this
  have hs := hs.on hb2
  have hbb : Below w.heap.size w w2 := hb.trans (hb2.mono hb.size)
  clear hv2 hle' H' hb hb2
  by_cases cl : n1 = n2
  · subst cl
    obtain ⟨hlen, hcap, hmax, hlim, hnil, hrd⟩ := hs
    obtain ⟨hlen2, hcap2, hmax2, hlim2, hnil2, hrd2⟩ := hs2
    unfold maxLen at hmax hmax2
    have hmk : Hid (∀ r w', cmpI (natV l1) (natV l2) = r → Below w.heap.size w w' → NCmpPost (natV l) (natV k) w (.returned (.int .i64 r)) w') := fun r w' h1 h2 => cmp_mk (by rw [← hvh.out, ← hvh2.out]; exact h1) h2
    have hst := Lib.hid (fun k => @alike_cmp l1 l2 k hlim hlim2)
    have hz := Lib.hid (@alike_zero l1 l2)
    have hal := Lib.hid (alike_len (hlen.trans hlen2.symm))
    have hss := Lib.hid (fun k => @alike_step l1 l2 k)
    rcases Nat.eq_zero_or_pos n1 with c0 | c0
    · subst c0
      have fin := hmk.out 0 w2 (hz.out (by rw [← hlen]; exact hal.out)) hbb
      clear hlen hlen2 hmk hst hz hal hss hnil hnil2 hrd hrd2 hvh hvh2
      go_wp2
      refine wp_loop_rounds 1 ?_
      rw [rounds_succ]
      go_wp2
      go_ret
      exact fin
    · rcases hrd with h0 | ⟨b, o, rfl, hb2, hc⟩
      · omega
      rcases hrd2 with h0 | ⟨b', o', rfl, hb2', hc'⟩
      · omega
      have HC := Lib.hid (show ∀ i : Nat, i < n1 → w2.cell? ⟨b, o + i, none⟩ = some (.int .u32 (digV l1 i)) from fun i hi => by rw [hc i (by omega), digV_lt])
      have HC' := Lib.hid (show ∀ i : Nat, i < n1 → w2.cell? ⟨b', o' + i, none⟩ = some (.int .u32 (digV l2 i)) from fun i hi => by rw [hc' i (by omega), digV_lt])
      have HL := Lib.hid hlen
      have HL2 := Lib.hid hlen2
      have D1 := Lib.hid (digV_limb hlim)
      have D2 := Lib.hid (digV_limb hlim2)
      clear hc hc' hlen hlen2 hnil hnil2 hvh hvh2 hlim hlim2
      go_wp2
      go_loopw [7] (fun i wr => ∃ k : Nat, k ≤ n1 ∧ i = .int .i64 ((k : Int) - 1) ∧ Alike l1 l2 k ∧ ∃ q, w2.drewN q = wr) (fun i _ => (intOf i + 1).toNat)
      case atStart => exact ⟨n1, Nat.le_refl _, by go_num, by rw [← HL.out]; exact hal.out, 0, rfl⟩
      case round =>
        obtain ⟨k, hk, rfl, hA, q, rfl⟩ := hrel
        cases k with
        | zero =>
          have fin := Lib.hid (fun w' => hmk.out 0 w' (hz.out hA))
          clear HC HC' hst hss hz hal hmk hA HL HL2 D1 D2
          go_wp2
          go_ret
          exact fin.out _ (below_drewN hbb _)
        | succ j =>
          have hj : j < n1 := by omega
          have ej : ((j + 1 : Nat) : Int) - 1 = (j : Int) := by omega
          have jl : (j : Int) < (n1 : Int) := by omega
          have j0 : (0 : Int) ≤ (j : Int) := by omega
          have cell := HC.out j hj
          have cell' := HC'.out j hj
          obtain ⟨x0, x1⟩ := D1.out j
          obtain ⟨y0, y1⟩ := D2.out j
          have fe : Hid (digV l1 j = digV l2 j → Alike l1 l2 j) := hss.out j hA (by rw [HL.out]; exact hj) (by rw [HL2.out]; exact hj)
          have fn : Hid (digV l1 j ≠ digV l2 j → cmpI (natV l1) (natV l2) = if digV l1 j < digV l2 j then -1 else 1) := hst.out j hA (by rw [HL.out]; exact hj) (by rw [HL2.out]; exact hj)
          generalize digV l1 j = x at *
          generalize digV l2 j = y at *
          clear HC HC' hst hss hz hal hA HL HL2 D1 D2
          rcases Int.lt_trichotomy x y with cx | cx | cx
          · have fin := Lib.hid (fun w' => hmk.out (-1) w' (by rw [fn.out (by omega), if_pos cx]))
            have cx' := Lib.hid cx
            clear hmk fe fn
            go_wp2
            go_quiet (fail)
            go_wp2
            go_ret
            exact fin.out _ (by repeat (first | exact hbb | refine below_drewN ?_ _))
          · subst cx
            have fe2 : Hid (Alike l1 l2 j) := fe.out (by first | rfl | trivial)
            clear hmk fn
            go_wp2
            go_quiet (fail)
            go_wp2
            go_quiet (fail)
            go_wp2
            go_roundw
            case rel => exact ⟨j, by omega, by go_num, fe2.out, _, rfl⟩
            case measure => simp [intOf]
          · have fin := Lib.hid (fun w' => hmk.out 1 w' (by rw [fn.out (by omega), if_neg (by omega)]))
            have cx2 : ¬ x < y := by omega
            clear hmk fe fn
            go_wp2
            go_quiet (fail)
            go_wp2
            go_quiet (fail)
            go_wp2
            go_ret
            exact fin.out _ (by repeat (first | exact hbb | refine below_drewN ?_ _))
  · have el := cmp_len hs.lim hs2.lim hn1 hn2 (by rw [hs.len, hs2.len]; exact cl)
    rw [hs.len, hs2.len, hvh.out, hvh2.out] at el
    have cb : ((n1 : Int) != (n2 : Int)) = true := by simpa using (show (n1 : Int) ≠ n2 by omega)
    have c1 : (n1 : Int) ≤ 100000000 := by omega
    have c2 : (n2 : Int) ≤ 100000000 := by omega
    by_cases c : n1 < n2
    · rw [if_pos c] at el
      have fin := Lib.hid (fun w' => @cmp_mk _ _ _ w w' el)
      have c' : (n1 : Int) < (n2 : Int) := by omega
      clear el hs hs2 hn1 hn2 hvh hvh2 cl c
      go_wp2
      go_ret
      exact fin.out _ hbb
    · rw [if_neg c] at el
      have fin := Lib.hid (fun w' => @cmp_mk _ _ _ w w' el)
      have c' : ¬ (n1 : Int) < (n2 : Int) := by omega
      clear el hs hs2 hn1 hn2 hvh hvh2 cl c
      go_wp2
      go_ret
      exact fin.out _ hbb
end Go.Proofs.YtnefacnceemklaaDoor

/-
  The document's naturals: Plus, Less, Twice.
-/
namespace Go.Proofs.YtnefacnceemklaaDoor
open Go.RowKit Go.Shelf

theorem limb_u32 (s : Int) : IntKind.u32.wrap (s % 4294967296) = s % 4294967296 := by
  rw [IntKind.wrap_u32]; omega
theorem limb_mod (s : Int) : Limb (s % 4294967296) := ⟨by omega, by omega⟩

/-- k limbs of a sum, and what is carried. -/
structure PlusAt (a b : List Int) (k : Nat) (o : List Int) (cy : Int) : Prop where
  len : o.length = k
  lim : ∀ x ∈ o, Limb x
  v : natV o + cy * pw (32 * (k : Int)) = natV (a.take k) + natV (b.take k)
theorem plus_step {a b o : List Int} {k : Nat} {cy s : Int} (h : PlusAt a b k o cy) (hs : s = digV a k + digV b k + cy) : PlusAt a b (k + 1) (o ++ [s % 4294967296]) (s / 4294967296) := by
  obtain ⟨h1, h2, h3⟩ := h
  refine ⟨by simp [h1], limbs_snoc h2 (limb_mod s), ?_⟩
  rw [natV_snoc, natV_take_dig, natV_take_dig, pw32, h1]
  have e : s = 4294967296 * (s / 4294967296) + s % 4294967296 := by omega
  generalize s / 4294967296 = q at *
  generalize s % 4294967296 = r at *
  generalize pw (32 * (k : Int)) = p at *
  have : p * (digV a k + digV b k + cy) = p * (4294967296 * q + r) := by rw [← hs, ← e]
  rw [Int.mul_add, Int.mul_add, Int.mul_add] at this
  rw [Int.mul_comm cy p] at h3
  rw [Int.mul_comm q, Int.mul_assoc 4294967296 p q]
  rw [Int.mul_left_comm p 4294967296 q] at this
  omega
theorem plus_end {a b o : List Int} {k : Nat} {cy : Int} (h : PlusAt a b k o cy) (h1 : a.length ≤ k) (h2 : b.length ≤ k) (hc : Limb cy) : (∀ x ∈ o ++ [cy], Limb x) ∧ natV (o ++ [cy]) = natV a + natV b := by
  refine ⟨limbs_snoc h.lim hc, ?_⟩
  rw [natV_snoc, h.len, Int.mul_comm, h.v, natV_take_all h1, natV_take_all h2]

/-- Whatever of 'make' and 'append' the call's own row is, Trim of it is the answer. -/
theorem trim_own {w w1 : World} {v : Value} {n : Nat} {l : List Int} (hown : w1.ownsRow w.heap.size 84 1 v n (l.map (Value.int .u32))) (hl : ∀ x ∈ l, Limb x) (hn : n ≤ 1000000000) (hb : Below w.heap.size w w1) {x : Int} (hv : natV l = x) :
    Calls Tryd.prog 80 #[v] w1 (NatPost x w) := by
  obtain ⟨A, c, rfl, hs, _⟩ := Sl.of_own hown hl
  exact (rtrim_any A n c l w1 hs hn).mono fun e w' h => h.on hb hv

set_option maxHeartbeats 2000000 in
theorem rplus_any (A B : Option Addr) (n m c d : Nat) (a b : List Int) (w : World) (h : Sl w w.heap.size A n c a) (h' : Sl w w.heap.size B m d b) (hn : n ≤ 100000000) (hm : m ≤ 100000000) :
    Calls Tryd.prog 92 #[.slice A n c, .slice B m d] w (NatPost (natV a + natV b) w) := by
  have HA := Lib.hid h; have HB := Lib.hid h'
  have st := Lib.hid (fun k o cy s => @plus_step a b o k cy s)
  have la := Lib.hid h.len; have lb := Lib.hid h'.len
  have da := Lib.hid (digV_limb h.lim); have db := Lib.hid (digV_limb h'.lim)
  clear h h'
  go_enter Tryd.func92, Tryd.ntmps92
  go_wp2
  go_loopw [5, 6, 7] (fun v cc i wr => ∃ k : Nat, ∃ o : List Int, ∃ cy : Int, i = .int .i64 (k : Int) ∧ cc = .int .u64 cy ∧ 0 ≤ cy ∧ cy ≤ 1 ∧ (k ≤ n ∨ k ≤ m) ∧ wr.ownsRow w.heap.size 84 1 v k (o.map (Value.int .u32)) ∧ Below w.heap.size w wr ∧ PlusAt a b k o cy) (fun _ _ i _ => n + m - (intOf i).toNat)
  case atStart => exact ⟨0, [], 0, rfl, rfl, by decide, by decide, .inl (by omega), ⟨rfl, .inl ⟨rfl, rfl⟩⟩, Below.refl _ _, ⟨rfl, by simp, by simp [natV]⟩⟩
  case round =>
    obtain ⟨k, o, cy, rfl, rfl, c0, c1, hk, hown, hB, hP⟩ := hrel
    have k0 : (k : Int) ≤ 100000000 := by omega
    by_cases hlt : k < n ∨ k < m
    · have HAw := Lib.hid ((HA.out.below hB).more hB.size)
      have HBw := Lib.hid ((HB.out.below hB).more hB.size)
      obtain ⟨x0, x1⟩ := da.out k
      obtain ⟨y0, y1⟩ := db.out k
      have stp := Lib.hid (st.out k o cy (digV a k + digV b k + cy) hP rfl)
      have CA := Lib.hid (limb_any A n c a k wr HAw.out (by omega))
      have CB := Lib.hid (limb_any B m d b k wr HBw.out (by omega))
      generalize digV a k = x at *
      generalize digV b k = y at *
      have wr1 := limb_u32 (x + y + cy)
      have WR := Lib.hid wr1
      have hown := Lib.hid hown
      have hk' : (n : Int) ≤ (k : Int) → (k : Int) < (m : Int) := by omega
      clear wr1 hP HAw HBw HA HB da db la lb st
      by_cases hkn : k < n
      · have hlt' : (k : Int) < (n : Int) := by omega
        clear hk' hlt
        go_wp2_with fail
        refine CA.out.mono ?_
        rintro e w' ⟨rfl, rfl⟩
        go_wp2_with fail
        refine CB.out.mono ?_
        rintro e w' ⟨rfl, rfl⟩
        go_wp2_with (at_builtin; refine wpList_app1 rfl _ _ rfl w.heap.size _ k o ((x + y + cy) % 4294967296) hown.out rfl rfl (by omega) hB.size ?_; intro v1 w1 hown1 hb1)
        go_roundw
        case rel => exact ⟨k + 1, _, _, by go_num, rfl, by omega, by omega, by omega, hown1, hB.trans hb1, stp.out⟩
        case measure => simp [intOf]; omega
      · have hge : (n : Int) ≤ (k : Int) := by omega
        have hlt' : (k : Int) < (m : Int) := by omega
        clear hk' hlt
        go_wp2_with fail
        refine CA.out.mono ?_
        rintro e w' ⟨rfl, rfl⟩
        go_wp2_with fail
        refine CB.out.mono ?_
        rintro e w' ⟨rfl, rfl⟩
        go_wp2_with (at_builtin; refine wpList_app1 rfl _ _ rfl w.heap.size _ k o ((x + y + cy) % 4294967296) hown.out rfl rfl (by omega) hB.size ?_; intro v1 w1 hown1 hb1)
        go_roundw
        case rel => exact ⟨k + 1, _, _, by go_num, rfl, by omega, by omega, by omega, hown1, hB.trans hb1, stp.out⟩
        case measure => simp [intOf]; omega
    · have hge : (n : Int) ≤ (k : Int) := by omega
      have hge2 : (m : Int) ≤ (k : Int) := by omega
      have wcy : IntKind.u32.wrap cy = cy := by rw [IntKind.wrap_u32]; omega
      have fin := Lib.hid (plus_end hP (by rw [la.out]; omega) (by rw [lb.out]; omega) (show Limb cy from ⟨c0, by omega⟩))
      have HO := Lib.hid hown
      clear hown HA HB da db la lb st hP wcy
      go_wp2_with (at_builtin; refine wpList_app1 rfl _ _ rfl w.heap.size _ k o cy HO.out rfl rfl (by omega) hB.size ?_; intro v1 w1 hown1 hb1)
      refine (trim_own hown1 fin.out.1 (by omega) (hB.trans hb1) fin.out.2).mono ?_
      intro e w2 hp
      obtain ⟨A2, n2, c2, l2, rfl, hs2, hn2, hv2, fr2, hb2⟩ := hp
      have hp := Lib.hid (show NatPost (natV a + natV b) w (.returned (.slice A2 n2 c2)) w2 from ⟨A2, n2, c2, l2, rfl, hs2, hn2, hv2, fr2, hb2⟩)
      clear hs2 hn2 hv2 hb2
      go_wp2
      go_ret
      exact hp.out
end Go.Proofs.YtnefacnceemklaaDoor

/-
  The document's naturals: Less, Twice.
-/
namespace Go.Proofs.YtnefacnceemklaaDoor
open Go.RowKit Go.Shelf

/-- k limbs of a difference, and what is borrowed. -/
structure LessAt (a b : List Int) (k : Nat) (o : List Int) (cy : Int) : Prop where
  len : o.length = k
  lim : ∀ x ∈ o, Limb x
  v : natV o + natV (b.take k) = natV (a.take k) + cy * pw (32 * (k : Int))
theorem less_step {a b o : List Int} {k : Nat} {cy x y c z : Int} (h : LessAt a b k o cy) (hx : x = digV a k) (hy : y = digV b k + cy) (hz : z = x + 4294967296 * c - y) (hl : Limb z) : LessAt a b (k + 1) (o ++ [z]) c := by
  obtain ⟨h1, h2, h3⟩ := h
  refine ⟨by simp [h1], limbs_snoc h2 hl, ?_⟩
  rw [natV_snoc, natV_take_dig, natV_take_dig, pw32, h1]
  subst hz hx hy
  generalize pw (32 * (k : Int)) = p at *
  rw [Int.mul_sub, Int.mul_add, Int.mul_add]
  rw [Int.mul_comm cy p] at h3
  rw [Int.mul_comm c, Int.mul_assoc 4294967296 p c, Int.mul_left_comm p 4294967296 c]
  omega
theorem less_end {a b o : List Int} {cy : Int} (ha : ∀ x ∈ a, Limb x) (hb : ∀ x ∈ b, Limb x) (h : LessAt a b a.length o cy) (hle : natV b ≤ natV a) (c0 : 0 ≤ cy) : natV o = natV a - natV b := by
  obtain ⟨h1, h2, h3⟩ := h
  rw [natV_take_all (Nat.le_refl _)] at h3
  have l1 := natV_lt h2
  have l2 := natV_lt ha
  have l3 := natV_take_le hb a.length
  rw [h1] at l1
  have hp := pw_pos (32 * (a.length : Int))
  have e : natV (b.take a.length) = natV b := by
    rcases Nat.lt_or_ge a.length b.length with c | c
    · have s := natV_split b a.length (by omega)
      have d0 := natV_nonneg (limbs_drop hb a.length)
      have t0 := natV_nonneg (limbs_take hb a.length)
      rcases Int.lt_or_le 0 (natV (b.drop a.length)) with g | g
      · have := Int.mul_le_mul_of_nonneg_left (show 1 ≤ natV (b.drop a.length) by omega) (Int.le_of_lt hp)
        omega
      · have : natV (b.drop a.length) = 0 := by omega
        rw [this] at s; omega
    · exact natV_take_all c
  rw [e] at h3
  rcases Int.lt_or_le 0 cy with g | g
  · have := Int.mul_le_mul_of_nonneg_right (show 1 ≤ cy by omega) (Int.le_of_lt hp)
    omega
  · have : cy = 0 := by omega
    rw [this] at h3; omega

set_option maxHeartbeats 2000000 in
theorem rless_any (A B : Option Addr) (n m c d : Nat) (a b : List Int) (w : World) (h : Sl w w.heap.size A n c a) (h' : Sl w w.heap.size B m d b) (hn : n ≤ 100000000) (_hm : m ≤ 100000000) (hle : natV b ≤ natV a) :
    Calls Tryd.prog 79 #[.slice A n c, .slice B m d] w (NatPost (natV a - natV b) w) := by
  have HA := Lib.hid h; have HB := Lib.hid h'
  have st := Lib.hid (fun k o cy x y c z => @less_step a b o k cy x y c z)
  have la := Lib.hid h.len
  have fin := Lib.hid (fun o cy h1 => @less_end a b o cy h.lim h'.lim h1 hle)
  have da := Lib.hid (digV_limb h.lim); have db := Lib.hid (digV_limb h'.lim)
  clear h h' hle
  go_enter Tryd.func79, Tryd.ntmps79
  go_wp2
  go_loopw [5, 6, 7] (fun v cc i wr => ∃ k : Nat, ∃ o : List Int, ∃ cy : Int, i = .int .i64 (k : Int) ∧ cc = .int .u64 cy ∧ 0 ≤ cy ∧ cy ≤ 1 ∧ k ≤ n ∧ wr.ownsRow w.heap.size 84 1 v k (o.map (Value.int .u32)) ∧ Below w.heap.size w wr ∧ LessAt a b k o cy) (fun _ _ i _ => n - (intOf i).toNat)
  case atStart => exact ⟨0, [], 0, rfl, rfl, by decide, by decide, by omega, ⟨rfl, .inl ⟨rfl, rfl⟩⟩, Below.refl _ _, ⟨rfl, by simp, by simp [natV]⟩⟩
  case round =>
    obtain ⟨k, o, cy, rfl, rfl, c0, c1, hk, hown, hB, hP⟩ := hrel
    have k0 : (k : Int) ≤ 100000000 := by omega
    by_cases hlt : k < n
    · have HAw := Lib.hid ((HA.out.below hB).more hB.size)
      have HBw := Lib.hid ((HB.out.below hB).more hB.size)
      obtain ⟨x0, x1⟩ := da.out k
      obtain ⟨y0, y1⟩ := db.out k
      have CA := Lib.hid (limb_any A n c a k wr HAw.out (by omega))
      have CB := Lib.hid (limb_any B m d b k wr HBw.out (by omega))
      have stp := Lib.hid (fun c z (h1 : z = digV a k + 4294967296 * c - (digV b k + cy)) (h2 : Limb z) => st.out k o cy _ _ c z hP rfl rfl h1 h2)
      generalize digV a k = x at *
      generalize digV b k = y at *
      have hown := Lib.hid hown
      have hlt' : (k : Int) < (n : Int) := by omega
      clear hP HAw HBw HA HB da db la st fin
      by_cases hxy : x < y + cy
      · have stp := Lib.hid (stp.out 1 (x + 4294967296 - (y + cy)) (by omega) ⟨by omega, by omega⟩)
        have f1 : 0 ≤ x + 4294967296 - (y + cy) := by omega
        have f2 : x + 4294967296 - (y + cy) < 4294967296 := by omega
        go_wp2_with fail
        refine CA.out.mono ?_
        rintro e w' ⟨rfl, rfl⟩
        go_wp2_with fail
        refine CB.out.mono ?_
        rintro e w' ⟨rfl, rfl⟩
        go_wp2_with (at_builtin; go_loud (refine wpList_app1 rfl _ _ rfl w.heap.size _ k o (x + 4294967296 - (y + cy)) hown.out rfl rfl (by omega) hB.size ?_); intro v1 w1 hown1 hb1)
        go_roundw
        case rel => exact ⟨k + 1, _, _, by go_num, rfl, by omega, by omega, by omega, hown1, hB.trans hb1, stp.out⟩
        case measure => simp [intOf]; omega
      · have stp := Lib.hid (stp.out 0 (x - (y + cy)) (by omega) ⟨by omega, by omega⟩)
        have f1 : 0 ≤ x - (y + cy) := by omega
        have f2 : x - (y + cy) < 4294967296 := by omega
        go_wp2_with fail
        refine CA.out.mono ?_
        rintro e w' ⟨rfl, rfl⟩
        go_wp2_with fail
        refine CB.out.mono ?_
        rintro e w' ⟨rfl, rfl⟩
        go_wp2_with (at_builtin; go_loud (refine wpList_app1 rfl _ _ rfl w.heap.size _ k o (x - (y + cy)) hown.out rfl rfl (by omega) hB.size ?_); intro v1 w1 hown1 hb1)
        go_roundw
        case rel => exact ⟨k + 1, _, _, by go_num, rfl, by omega, by omega, by omega, hown1, hB.trans hb1, stp.out⟩
        case measure => simp [intOf]; omega
    · have ek : k = n := by omega
      have hge : (n : Int) ≤ (k : Int) := by omega
      have HT := Lib.hid (trim_own hown hP.lim (by omega) hB (fin.out o cy (by rw [la.out, ← ek]; exact hP) c0))
      clear hown HA HB da db la st hP fin ek
      go_wp2_with fail
      refine HT.out.mono ?_
      intro e w2 hp
      obtain ⟨A2, n2, c2, l2, rfl, hs2, hn2, hv2, fr2, hb2⟩ := hp
      have hp := Lib.hid (show NatPost (natV a - natV b) w (.returned (.slice A2 n2 c2)) w2 from ⟨A2, n2, c2, l2, rfl, hs2, hn2, hv2, fr2, hb2⟩)
      clear hs2 hn2 hv2 hb2
      go_wp2
      go_ret
      exact hp.out

/-- k limbs of a double. -/
structure TwiceAt (a : List Int) (c : Int) (k : Nat) (o : List Int) (cy : Int) : Prop where
  len : o.length = k
  lim : ∀ x ∈ o, Limb x
  v : natV o + cy * pw (32 * (k : Int)) = 2 * natV (a.take k) + c
theorem twice_step {a o : List Int} {k : Nat} {c cy s : Int} (h : TwiceAt a c k o cy) (hs : s = 2 * digV a k + cy) : TwiceAt a c (k + 1) (o ++ [s % 4294967296]) (s / 4294967296) := by
  obtain ⟨h1, h2, h3⟩ := h
  refine ⟨by simp [h1], limbs_snoc h2 (limb_mod s), ?_⟩
  rw [natV_snoc, natV_take_dig, pw32, h1]
  have e : s = 4294967296 * (s / 4294967296) + s % 4294967296 := by omega
  generalize s / 4294967296 = q at *
  generalize s % 4294967296 = r at *
  generalize pw (32 * (k : Int)) = p at *
  have : p * (2 * digV a k + cy) = p * (4294967296 * q + r) := by rw [← hs, ← e]
  rw [Int.mul_add, Int.mul_add, Int.mul_left_comm p 2] at this
  rw [Int.mul_comm cy p] at h3
  rw [Int.mul_comm q, Int.mul_assoc 4294967296 p q]
  rw [Int.mul_left_comm p 4294967296 q] at this
  omega
theorem twice_end {a o : List Int} {k : Nat} {c cy : Int} (h : TwiceAt a c k o cy) (h1 : a.length ≤ k) (hc : Limb cy) : (∀ x ∈ o ++ [cy], Limb x) ∧ natV (o ++ [cy]) = 2 * natV a + c := by
  refine ⟨limbs_snoc h.lim hc, ?_⟩
  rw [natV_snoc, h.len, Int.mul_comm, h.v, natV_take_all h1]
/-- One more, perhaps. -/
def b2i (b : Bool) : Int := if b then 1 else 0

set_option maxHeartbeats 2000000 in
theorem rtwice_any (A : Option Addr) (n c : Nat) (a : List Int) (more : Bool) (w : World) (h : Sl w w.heap.size A n c a) (hn : n ≤ 100000000) :
    Calls Tryd.prog 77 #[.slice A n c, .bool more] w (NatPost (2 * natV a + b2i more) w) := by
  have HA := Lib.hid h
  obtain ⟨mm, hmm⟩ : ∃ mm, b2i more = mm := ⟨_, rfl⟩
  rw [hmm]
  have st := Lib.hid (fun k o cy s => @twice_step a o k mm cy s)
  have la := Lib.hid h.len
  have da := Lib.hid (digV_limb h.lim)
  have s0 : Hid (TwiceAt a mm 0 [] (b2i more)) := ⟨rfl, by simp, by show natV [] + b2i more * 1 = 2 * natV (a.take 0) + mm; rw [hmm]; simp [natV]⟩
  have HM := Lib.hid hmm
  clear hmm h
  cases more
  all_goals
    go_enter Tryd.func77, Tryd.ntmps77
    go_wp2
    go_loopw [5, 6, 7] (fun v cc i wr => ∃ k : Nat, ∃ o : List Int, ∃ cy : Int, i = .int .i64 (k : Int) ∧ cc = .int .u64 cy ∧ 0 ≤ cy ∧ cy ≤ 1 ∧ k ≤ n ∧ wr.ownsRow w.heap.size 84 1 v k (o.map (Value.int .u32)) ∧ Below w.heap.size w wr ∧ TwiceAt a mm k o cy) (fun _ _ i _ => n - (intOf i).toNat)
    case atStart => exact ⟨0, [], _, rfl, rfl, by decide, by decide, by omega, ⟨rfl, .inl ⟨rfl, rfl⟩⟩, Below.refl _ _, s0.out⟩
    case round =>
      obtain ⟨k, o, cy, rfl, rfl, c0, c1, hk, hown, hB, hP⟩ := hrel
      have k0 : (k : Int) ≤ 100000000 := by omega
      by_cases hlt : k < n
      · have HAw := (HA.out.below hB).more hB.size
        rcases HAw.rd with hz | ⟨b, of, rfl, hb, hc⟩
        · omega
        have cell : wr.cell? ⟨b, of + k, none⟩ = some (.int .u32 (digV a k)) := by rw [hc k (by rw [la.out]; exact hlt), digV_lt]
        obtain ⟨x0, x1⟩ := da.out k
        have stp := Lib.hid (st.out k o cy (2 * digV a k + cy) hP rfl)
        generalize digV a k = x at *
        have hown := Lib.hid hown
        have hlt' : (k : Int) < (n : Int) := by omega
        clear hP HA HAw da la st hc s0
        go_wp2_with (at_builtin; go_loud (refine wpList_app1 rfl _ _ rfl w.heap.size _ k o ((2 * x + cy) % 4294967296) hown.out rfl rfl (by omega) hB.size ?_); intro v1 w1 hown1 hb1)
        go_roundw
        case rel => exact ⟨k + 1, _, _, by go_num, rfl, by omega, by omega, by omega, hown1, hB.trans hb1, stp.out⟩
        case measure => simp [intOf]; omega
      · have hge : (n : Int) ≤ (k : Int) := by omega
        have fin := Lib.hid (twice_end hP (by rw [la.out]; omega) (show Limb cy from ⟨c0, by omega⟩))
        have HO := Lib.hid hown
        clear hown HA da la st hP s0
        go_wp2_with (at_builtin; go_loud (refine wpList_app1 rfl _ _ rfl w.heap.size _ k o cy HO.out rfl rfl (by omega) hB.size ?_); intro v1 w1 hown1 hb1)
        refine (trim_own hown1 fin.out.1 (by omega) (hB.trans hb1) fin.out.2).mono ?_
        intro e w2 hp
        obtain ⟨A2, n2, c2, l2, rfl, hs2, hn2, hv2, fr2, hb2⟩ := hp
        have hp := Lib.hid (show NatPost _ w (.returned (.slice A2 n2 c2)) w2 from ⟨A2, n2, c2, l2, rfl, hs2, hn2, hv2, fr2, hb2⟩)
        clear hs2 hn2 hv2 hb2
        go_wp2
        go_ret
        exact hp.out
end Go.Proofs.YtnefacnceemklaaDoor

/-
  The document's naturals: Times.
-/
namespace Go.Proofs.YtnefacnceemklaaDoor
open Go.RowKit Go.Shelf

/-- 'make' of n limbs. -/
theorem wpList_mk {w : World} {ops : Array Oper} {rest : List Oper} {o : Oper} {a : Act} {Q : Exit → Act → World → Prop} (hgd : o.guard = none) (s x : Operand) (ho : o.op = Op.makeSlice 49 s x)
    (base : Nat) (L C : Int) (n : Nat) (hs : a.eval s = .int .i64 L) (hx : a.eval x = .int .i64 C) (hL : L = (n : Int)) (hC : C = (n : Int)) (hn : n ≤ 2000000000) (hbase : base ≤ w.heap.size)
    (h : ∀ w', w'.ownsRow base 84 1 (.slice (some ⟨w.heap.size, 0, none⟩) n n) n ((List.replicate n (0 : Int)).map (Value.int .u32)) → Below base w w' → w.heap.size < w'.heap.size → wpList Tryd.prog ops Q rest (a.put o.dst (.slice (some ⟨w.heap.size, 0, none⟩) n n)) w') :
    wpList Tryd.prog ops Q (o :: rest) a w := by
  obtain ⟨i0, hi, hz0, hz1, hz2⟩ := info_parts Tryd.info71
  refine wpList_make_full w hgd s x 49 ho base 84 i0 (.int .u32 0) 1 Tryd.underlying49 hi hz0 hz1 .i64 .i64 L C n hs hx hL hC (by rw [hz2]; omega) (by unfold maxLen; omega) hbase fun w' h1 h2 => ?_
  refine h w' ?_ ((Below.refl _ _).grown h2 hbase (fun k hk => by cases hk)) (h1.lt _ rfl).2
  have e : (madeCells (Value.int .u32 0).cells (n * 1)).toList = (List.replicate n (0 : Int)).map (Value.int .u32) := by
    rw [show (Value.int .u32 0).cells = #[Value.int .u32 0] from rfl, toList_madeCells_one, List.map_replicate, Nat.mul_one]
  rw [← e]; exact h1

/-- i rows of a product. -/
structure TimesAt (a b : List Int) (N i : Nat) (o : List Int) : Prop where
  len : o.length = N
  lim : ∀ x ∈ o, Limb x
  v : natV o = natV (a.take i) * natV b
  z : ∀ t : Nat, i + b.length ≤ t → digV o t = 0
/-- .. and k limbs of the next row. -/
structure TimesIn (a b : List Int) (N i k : Nat) (o : List Int) (cy : Int) : Prop where
  len : o.length = N
  lim : ∀ x ∈ o, Limb x
  v : natV o + cy * pw (32 * ((i + k : Nat) : Int)) = natV (a.take i) * natV b + digV a i * (pw (32 * (i : Int)) * natV (b.take k))
  z : ∀ t : Nat, i + b.length ≤ t → digV o t = 0
theorem digV_set_ne {o : List Int} {i t : Nat} {x : Int} (h : i ≠ t) : digV (o.set i x) t = digV o t := by
  unfold digV; rw [List.getElem?_set_ne h]
theorem times_in {a b o : List Int} {N i : Nat} (h : TimesAt a b N i o) : TimesIn a b N i 0 o 0 :=
  ⟨h.len, h.lim, by rw [h.v, List.take_zero, show natV [] = 0 from rfl]; simp, h.z⟩
theorem times_step {a b o : List Int} {N i k : Nat} {cy s : Int} (h : TimesIn a b N i k o cy) (hk : k < b.length) (hN : i + k < N) (hs : s = digV a i * digV b k + digV o (i + k) + cy) :
    TimesIn a b N i (k + 1) (o.set (i + k) (s % 4294967296)) (s / 4294967296) := by
  obtain ⟨h1, h2, h3, h4⟩ := h
  refine ⟨by rw [List.length_set, h1], limbs_set h2 _ (limb_mod s), ?_, fun t ht => by rw [digV_set_ne (by omega)]; exact h4 t ht⟩
  rw [natV_set _ (by omega), ← digV_lt (by omega), natV_take_dig, show i + (k + 1) = i + k + 1 from rfl, pw32]
  have ep : pw (32 * ((i + k : Nat) : Int)) = pw (32 * (i : Int)) * pw (32 * (k : Int)) := by rw [← pw_add _ _ (by omega) (by omega)]; congr 1; omega
  have e : s = 4294967296 * (s / 4294967296) + s % 4294967296 := by omega
  generalize s / 4294967296 = q at *
  generalize s % 4294967296 = r at *
  generalize digV o (i + k) = D at *
  generalize hp : pw (32 * ((i + k : Nat) : Int)) = p at *
  have f : p * (digV a i * digV b k + D + cy) = p * (4294967296 * q + r) := by rw [← hs, ← e]
  have g : digV a i * (pw (32 * (i : Int)) * (natV (b.take k) + pw (32 * (k : Int)) * digV b k)) = digV a i * (pw (32 * (i : Int)) * natV (b.take k)) + p * (digV a i * digV b k) := by
    rw [Int.mul_add, Int.mul_add, ← Int.mul_assoc (pw (32 * (i : Int))) (pw (32 * (k : Int))), ← ep, Int.mul_left_comm (digV a i) p]
  rw [g]
  rw [Int.mul_add, Int.mul_add, Int.mul_add, Int.mul_left_comm p 4294967296] at f
  rw [Int.mul_comm cy p] at h3
  rw [Int.mul_sub, Int.mul_comm q, Int.mul_assoc 4294967296 p q]
  omega
theorem times_out {a b o : List Int} {N i : Nat} {cy : Int} (h : TimesIn a b N i b.length o cy) (hc : Limb cy) (hN : i + b.length < N) : TimesAt a b N (i + 1) (o.set (i + b.length) cy) := by
  obtain ⟨h1, h2, h3, h4⟩ := h
  refine ⟨by rw [List.length_set, h1], limbs_set h2 _ hc, ?_, fun t ht => by rw [digV_set_ne (by omega)]; exact h4 t (by omega)⟩
  rw [natV_set _ (by omega), ← digV_lt (by omega), h4 _ (Nat.le_refl _), natV_take_dig, Int.add_mul]
  rw [natV_take_all (Nat.le_refl _)] at h3
  rw [Int.mul_comm cy] at h3
  rw [Int.mul_sub, Int.mul_zero, Int.sub_zero, h3, Int.mul_left_comm, Int.mul_assoc]
theorem mul_limb {x y : Int} (hx : Limb x) (hy : Limb y) : 0 ≤ x * y ∧ x * y ≤ 18446744065119617025 := by
  unfold Limb at *
  exact ⟨Int.mul_nonneg hx.1 hy.1, Int.le_trans (Int.mul_le_mul (show x ≤ 4294967295 by omega) (show y ≤ 4294967295 by omega) hy.1 (by omega)) (by decide)⟩
theorem row_cell {w : World} {base g N : Nat} {o : List Int} (h : w.ownsRow base 84 1 (.slice (some ⟨g, 0, none⟩) N N) N (o.map (Value.int .u32))) (j : Nat) (hj : j < N) : w.cell? ⟨g, j, none⟩ = some (.int .u32 (digV o j)) := by
  have hl : o.length = N := by have := h.1; simpa using this
  rw [h.cellAt j (by omega), digV_lt (by omega)]
  simp [show j < o.length by omega]
theorem row_set {w : World} {base g N : Nat} {o : List Int} (h : w.ownsRow base 84 1 (.slice (some ⟨g, 0, none⟩) N N) N (o.map (Value.int .u32))) (j : Nat) (x : Int) :
    (w.setCell ⟨g, j, none⟩ (.int .u32 x)).ownsRow base 84 1 (.slice (some ⟨g, 0, none⟩) N N) N ((o.set j x).map (Value.int .u32)) := by
  have := (h.stored j (.int .u32 x)).1
  rw [List.map_set]; exact this
theorem row_drewN {w : World} {base n : Nat} {v : Value} {xs : List Value} (h : w.ownsRow base 84 1 v n xs) (k : Nat) : (w.drewN k).ownsRow base 84 1 v n xs := h

set_option maxHeartbeats 4000000 in
theorem rtimes_any (A B : Option Addr) (n m c d : Nat) (a b : List Int) (w : World) (h : Sl w w.heap.size A n c a) (h' : Sl w w.heap.size B m d b) (hn : n ≤ 100000000) (hm : m ≤ 100000000) :
    Calls Tryd.prog 51 #[.slice A n c, .slice B m d] w (NatPost (natV a * natV b) w) := by
  have HA := Lib.hid h; have HB := Lib.hid h'
  have la := Lib.hid h.len; have lb := Lib.hid h'.len
  have da := Lib.hid (digV_limb h.lim); have db := Lib.hid (digV_limb h'.lim)
  have s0 : Hid (TimesAt a b (n + m + 1) 0 (List.replicate (n + m + 1) 0)) := ⟨by simp, limbs_rep _, by rw [natV_rep]; simp [natV], fun t _ => by
    rcases Nat.lt_or_ge t (List.replicate (n + m + 1) (0 : Int)).length with c1 | c1
    · rw [digV_lt c1]; simp
    · exact digV_ge c1⟩
  obtain ⟨N, hN⟩ : ∃ N, n + m + 1 = N := ⟨_, rfl⟩
  have eN : (n : Int) + (m : Int) + 1 = (N : Int) := by omega
  have EN := Lib.hid eN
  rw [hN] at s0
  have bN : N ≤ 200000001 := by omega
  have hN' : n + m < N := by omega
  have HN := Lib.hid hN
  clear h h' hN eN
  go_enter Tryd.func51, Tryd.ntmps51
  go_wp2_with (at_make; go_loud (refine wpList_mk rfl _ _ rfl w.heap.size _ _ N rfl rfl EN.out EN.out (by omega) (Nat.le_refl _) ?_); intro w1 hown1 hb1 hz1)
  go_loopw [6] (fun i wr => ∃ t : Nat, ∃ o : List Int, i = .int .i64 (t : Int) ∧ t ≤ n ∧ wr.ownsRow w.heap.size 84 1 (.slice (some ⟨w.heap.size, 0, none⟩) N N) N (o.map (Value.int .u32)) ∧ Below w.heap.size w wr ∧ w.heap.size < wr.heap.size ∧ TimesAt a b N t o) (fun i _ => n - (intOf i).toNat)
  case atStart => exact ⟨0, _, rfl, by omega, hown1, hb1, hz1, s0.out⟩
  case round =>
    obtain ⟨t, o, rfl, ht, hown, hB, hz, hP⟩ := hrel
    have t0 : (t : Int) ≤ 100000000 := by omega
    have bn : (n : Int) ≤ 100000000 := by omega
    have bm : (m : Int) ≤ 100000000 := by omega
    clear hown1 hb1 hz1 s0
    by_cases hlt : t < n
    · have hlt' : (t : Int) < (n : Int) := by omega
      have hP := Lib.hid hP
      have HO := Lib.hid hown
      clear hown
      go_upto_block 2 with fail
      go_cut [7] (fun v wx => ∃ cy : Int, ∃ o : List Int, v = .int .u64 cy ∧ 0 ≤ cy ∧ cy < 4294967296 ∧ wx.ownsRow w.heap.size 84 1 (.slice (some ⟨w.heap.size, 0, none⟩) N N) N (o.map (Value.int .u32)) ∧ Below w.heap.size w wx ∧ w.heap.size < wx.heap.size ∧ TimesIn a b N t m o cy)
      case first =>
        go_wp2_with fail
        go_loopw [7, 8] (fun v kk wx => ∃ k : Nat, ∃ cy : Int, ∃ o : List Int, kk = .int .i64 (k : Int) ∧ v = .int .u64 cy ∧ k ≤ m ∧ 0 ≤ cy ∧ cy < 4294967296 ∧ wx.ownsRow w.heap.size 84 1 (.slice (some ⟨w.heap.size, 0, none⟩) N N) N (o.map (Value.int .u32)) ∧ Below w.heap.size w wx ∧ w.heap.size < wx.heap.size ∧ TimesIn a b N t k o cy) (fun _ kk _ => m - (intOf kk).toNat)
        case atStart => exact ⟨0, 0, o, rfl, rfl, by omega, by decide, by decide, HO.out, hB, hz, times_in hP.out⟩
        case round =>
          obtain ⟨k, cy, o, rfl, rfl, hk, c0, c1, hown, hB, hz, hI⟩ := hrel
          clear HO hP
          by_cases hkm : k < m
          · have HAw := (HA.out.below hB)
            have HBw := (HB.out.below hB)
            rcases HAw.rd with hz1 | ⟨b1, o1, rfl, hb1, hc1⟩
            · omega
            rcases HBw.rd with hz2 | ⟨b2, o2, rfl, hb2, hc2⟩
            · omega
            obtain ⟨j, hj⟩ : ∃ j, t + k = j := ⟨_, rfl⟩
            have cell1 := hc1 t (by rw [la.out]; exact hlt)
            have cell2 := hc2 k (by rw [lb.out]; exact hkm)
            have cell3 := row_cell hown j (by omega)
            have fr : World.frozen? _ ⟨w.heap.size, j, none⟩ = false := hown.frozenAt j
            rw [← digV_lt] at cell1 cell2
            obtain ⟨x0, x1⟩ := da.out t
            obtain ⟨y0, y1⟩ := db.out k
            obtain ⟨p0, p1⟩ := mul_limb (da.out t) (db.out k)
            obtain ⟨z0, z1⟩ := digV_limb hI.lim j
            have stp := Lib.hid (times_step (s := digV a t * digV b k + digV o j + cy) hI (by rw [lb.out]; exact hkm) (by omega) (by rw [hj]))
            rw [hj] at stp
            have ej : (t : Int) + (k : Int) = (j : Int) := by omega
            have jN : (j : Int) < (N : Int) := by omega
            have j0 : (0 : Int) ≤ (j : Int) := by omega
            have hkm' : (k : Int) < (m : Int) := by omega
            have k0 : (0 : Int) ≤ (k : Int) := by omega
            have tt0 : (0 : Int) ≤ (t : Int) := by omega
            have Hown := Lib.hid hown
            generalize hp : digV a t * digV b k = p at *
            generalize digV a t = x at *
            generalize digV b k = y at *
            generalize digV o j = z at *
            have wj : IntKind.i64.wrap ((t : Int) + (k : Int)) = (j : Int) := by rw [ej, IntKind.wrap_i64]; omega
            have w1 : IntKind.u64.wrap p = p := by rw [IntKind.wrap_u64]; omega
            have w2 : IntKind.u64.wrap (p + z) = p + z := by rw [IntKind.wrap_u64]; omega
            have w3 : IntKind.u64.wrap (p + z + cy) = p + z + cy := by rw [IntKind.wrap_u64]; omega
            have q0 : 0 ≤ p + z + cy := by omega
            clear hc1 hc2 HAw HBw HA HB da db la lb hI hown hj
            go_wp2
            go_quiet (fail)
            have Hset := Lib.hid (fun v => row_set (row_drewN Hown.out nq) j v)
            go_wp2
            go_roundw
            case rel => exact ⟨k + 1, _, _, by go_num, rfl, by omega, by omega, by omega, Hset.out _, (below_drewN hB _).setCell (Nat.le_refl _) _, by simpa [World.setCell] using hz, stp.out⟩
            case measure => simp [intOf]; omega
          · have ek : k = m := by omega
            subst ek
            have hI := Lib.hid hI
            have hown := Lib.hid hown
            clear HA HB da db la lb
            go_wp2
            go_meet
            exact ⟨cy, o, rfl, c0, c1, hown.out, hB, hz, hI.out⟩
      case rest =>
        obtain ⟨cy, o, rfl, c0, c1, hown, hB, hz, hI⟩ := hcut
        obtain ⟨j, hj⟩ : ∃ j, t + m = j := ⟨_, rfl⟩
        have ej : (t : Int) + (m : Int) = (j : Int) := by omega
        have jN : (j : Int) < (N : Int) := by omega
        have cell := row_cell hown j (by omega)
        have fr : World.frozen? _ ⟨w.heap.size, j, none⟩ = false := hown.frozenAt j
        have fin := Lib.hid (times_out (by rw [lb.out]; exact hI) (show Limb cy from ⟨c0, c1⟩) (by rw [lb.out]; omega))
        rw [lb.out, hj] at fin
        have Hown := Lib.hid (row_set hown j cy)
        generalize digV o j = z at *
        clear HA HB da db la lb hI hown hj HO hP
        go_wp2
        go_roundw
        case rel => exact ⟨t + 1, _, by go_num, by omega, Hown.out, hB.setCell (Nat.le_refl _) _, by simpa [World.setCell] using hz, fin.out⟩
        case measure => simp [intOf]; omega
    · have fin := hP.v
      rw [natV_take_all (by rw [la.out]; omega)] at fin
      have HT := Lib.hid (trim_own hown hP.lim (by omega) hB fin)
      have hge : (n : Int) ≤ (t : Int) := by omega
      clear hown HA HB da db la lb hP fin
      go_wp2_with fail
      refine HT.out.mono ?_
      intro e w2 hp
      obtain ⟨A2, n2, c2, l2, rfl, hs2, hn2, hv2, fr2, hb2⟩ := hp
      have hp := Lib.hid (show NatPost (natV a * natV b) w (.returned (.slice A2 n2 c2)) w2 from ⟨A2, n2, c2, l2, rfl, hs2, hn2, hv2, fr2, hb2⟩)
      clear hs2 hn2 hv2 hb2
      go_wp2
      go_ret
      exact hp.out
end Go.Proofs.YtnefacnceemklaaDoor

