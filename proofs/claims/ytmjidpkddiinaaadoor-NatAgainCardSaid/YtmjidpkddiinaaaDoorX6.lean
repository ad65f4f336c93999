import Derived.Test.YtmjidpkddiinaaaDoorX4
import Derived.Lib.TrimByte
import Derived.Laws.IdiomStrings
import Derived.Test.YtmjidpkddiinaaaDoorX5
/-
  Decimal digits as bytes: plain facts.
-/
namespace Go.Proofs.YtmjidpkddiinaaaDoor
open Go.RowKit Go.Shelf

def p10 (n : Nat) : Int := ((10 ^ n : Nat) : Int)
theorem p10_pos (n : Nat) : 0 < p10 n := Int.natCast_pos.2 (Nat.pow_pos (by decide))
theorem p10_succ (n : Nat) : p10 (n + 1) = 10 * p10 n := by unfold p10; rw [Nat.pow_succ]; push_cast; omega
theorem p10_add (a b : Nat) : p10 (a + b) = p10 a * p10 b := by unfold p10; rw [Nat.pow_add]; push_cast; rfl
theorem p10_mono {a b : Nat} (h : a ≤ b) : p10 a ≤ p10 b := Int.ofNat_le.2 (Nat.pow_le_pow_right (by decide) h)
/-- The number of a row of digits. -/
def dv : List UInt8 → Int
  | [] => 0
  | b :: r => ((b.toNat : Int) - 48) * p10 r.length + dv r
def AllD (l : List UInt8) : Prop := ∀ b ∈ l, 48 ≤ b.toNat ∧ b.toNat ≤ 57
theorem AllD.tail {b : UInt8} {r : List UInt8} (h : AllD (b :: r)) : AllD r := fun x hx => h x (List.mem_cons_of_mem _ hx)
theorem AllD.head {b : UInt8} {r : List UInt8} (h : AllD (b :: r)) : 48 ≤ b.toNat ∧ b.toNat ≤ 57 := h b (List.mem_cons_self ..)
theorem AllD.app {a b : List UInt8} (h : AllD a) (k : AllD b) : AllD (a ++ b) := fun x hx => by
  rcases List.mem_append.1 hx with z | z
  · exact h x z
  · exact k x z
theorem AllD.left {a b : List UInt8} (h : AllD (a ++ b)) : AllD a := fun x hx => h x (List.mem_append_left _ hx)
theorem AllD.right {a b : List UInt8} (h : AllD (a ++ b)) : AllD b := fun x hx => h x (List.mem_append_right _ hx)
theorem dv_bounds : ∀ {l : List UInt8}, AllD l → 0 ≤ dv l ∧ dv l < p10 l.length
  | [], _ => ⟨by decide, by decide⟩
  | b :: r, h => by
    obtain ⟨h1, h2⟩ := dv_bounds h.tail
    obtain ⟨b0, b1⟩ := h.head
    have p := p10_pos r.length
    rw [dv, List.length_cons, p10_succ]
    have a1 : 0 ≤ ((b.toNat : Int) - 48) * p10 r.length := Int.mul_nonneg (by omega) (by omega)
    have a2 : ((b.toNat : Int) - 48) * p10 r.length ≤ 9 * p10 r.length := Int.mul_le_mul_of_nonneg_right (by omega) (by omega)
    omega
theorem dv_append : ∀ (a b : List UInt8), dv (a ++ b) = dv a * p10 b.length + dv b
  | [], b => by simp [dv]
  | x :: r, b => by
    rw [List.cons_append, dv, dv, dv_append r b, List.length_append, p10_add, Int.add_mul, Int.mul_assoc]; omega
theorem dv_snoc (a : List UInt8) (x : UInt8) : dv (a ++ [x]) = 10 * dv a + ((x.toNat : Int) - 48) := by
  rw [dv_append, dv, dv, show p10 [x].length = 10 from rfl, show p10 ([] : List UInt8).length = 1 from rfl]; omega
theorem dv_inj : ∀ {a b : List UInt8}, AllD a → AllD b → a.length = b.length → dv a = dv b → a = b
  | [], [], _, _, _, _ => rfl
  | [], _ :: _, _, _, h, _ => by simp at h
  | _ :: _, [], _, _, h, _ => by simp at h
  | x :: r, y :: s, ha, hb, hl, hv => by
    have hl' : r.length = s.length := by simpa using hl
    rw [dv, dv, hl'] at hv
    obtain ⟨p1, p2⟩ := dv_bounds ha.tail
    obtain ⟨q1, q2⟩ := dv_bounds hb.tail
    rw [hl'] at p2
    have P := p10_pos s.length
    obtain ⟨x0, x1⟩ := ha.head
    obtain ⟨y0, y1⟩ := hb.head
    have e : (x.toNat : Int) = (y.toNat : Int) := by
      rcases Int.lt_trichotomy (x.toNat : Int) (y.toNat : Int) with c | c | c
      · exfalso
        have : ((x.toNat : Int) - 48 + 1) * p10 s.length ≤ ((y.toNat : Int) - 48) * p10 s.length := Int.mul_le_mul_of_nonneg_right (by omega) (by omega)
        rw [Int.add_mul] at this; omega
      · exact c
      · exfalso
        have : ((y.toNat : Int) - 48 + 1) * p10 s.length ≤ ((x.toNat : Int) - 48) * p10 s.length := Int.mul_le_mul_of_nonneg_right (by omega) (by omega)
        rw [Int.add_mul] at this; omega
    have exy : x = y := UInt8.toNat_inj.1 (by exact_mod_cast e)
    subst exy
    rw [dv_inj ha.tail hb.tail hl' (by omega)]
/-- A number's own digits. -/
structure Canon (l : List UInt8) : Prop where
  all : AllD l
  ne : l ≠ []
  hd : l = [48] ∨ l.head? ≠ some 48
theorem canon_ge {b : UInt8} {r : List UInt8} (h : AllD (b :: r)) (hb : b ≠ 48) : p10 r.length ≤ dv (b :: r) := by
  obtain ⟨h1, _⟩ := dv_bounds h.tail
  obtain ⟨b0, b1⟩ := h.head
  have e : b.toNat ≠ 48 := fun z => hb (UInt8.toNat_inj.1 z)
  have p := p10_pos r.length
  rw [dv]
  have a1 : 1 * p10 r.length ≤ ((b.toNat : Int) - 48) * p10 r.length := Int.mul_le_mul_of_nonneg_right (by omega) (by omega)
  omega
theorem canon_unique {a b : List UInt8} (ha : Canon a) (hb : Canon b) (h : dv a = dv b) : a = b := by
  match a, ha, b, hb with
  | [], ha, _, _ => exact absurd rfl ha.ne
  | _ :: _, _, [], hb => exact absurd rfl hb.ne
  | x :: r, ha, y :: s, hb =>
    by_cases cx : x = 48
    · subst cx
      have ea : (48 : UInt8) :: r = [48] := by
        rcases ha.hd with z | z
        · exact z
        · exact absurd rfl z
      rw [ea] at h ⊢
      by_cases cy : y = 48
      · subst cy
        rcases hb.hd with z | z
        · exact z.symm
        · exact absurd rfl z
      · have g := canon_ge hb.all cy
        have p := p10_pos s.length
        rw [← h] at g
        have : dv [48] = 0 := by decide
        omega
    · by_cases cy : y = 48
      · subst cy
        have eb : (48 : UInt8) :: s = [48] := by
          rcases hb.hd with z | z
          · exact z
          · exact absurd rfl z
        have g := canon_ge ha.all cx
        have p := p10_pos r.length
        rw [h, eb] at g
        have : dv [48] = 0 := by decide
        omega
      · have g1 := canon_ge ha.all cx
        have g2 := canon_ge hb.all cy
        have l1 := (dv_bounds ha.all).2
        have l2 := (dv_bounds hb.all).2
        rw [List.length_cons] at l1 l2
        have hl : r.length = s.length := by
          rcases Nat.lt_trichotomy r.length s.length with c | c | c
          · have := p10_mono (show r.length + 1 ≤ s.length from c); omega
          · exact c
          · have := p10_mono (show s.length + 1 ≤ r.length from c); omega
        exact dv_inj ha.all hb.all (by simp [hl]) h
theorem trim_cons (b : UInt8) (r : List UInt8) : Lib.trimLeftB (b :: r) 48 = if b = 48 then Lib.trimLeftB r 48 else b :: r := by
  unfold Lib.trimLeftB
  rw [List.dropWhile_cons]
  by_cases c : b = 48
  · rw [if_pos c, if_pos (by simpa using c)]
  · rw [if_neg c, if_neg (by simpa using c)]
theorem trim_dv : ∀ (l : List UInt8), dv (Lib.trimLeftB l 48) = dv l
  | [] => rfl
  | b :: r => by
    rw [trim_cons]
    by_cases c : b = 48
    · rw [if_pos c, trim_dv r, dv, c]
      show dv r = (48 - 48) * _ + dv r
      omega
    · rw [if_neg c]
theorem trim_all : ∀ {l : List UInt8}, AllD l → AllD (Lib.trimLeftB l 48)
  | [], h => h
  | b :: r, h => by
    rw [trim_cons]
    by_cases c : b = 48
    · rw [if_pos c]; exact trim_all h.tail
    · rw [if_neg c]; exact h
theorem trim_head : ∀ (l : List UInt8), (Lib.trimLeftB l 48).head? ≠ some 48
  | [] => by simp [Lib.trimLeftB]
  | b :: r => by
    rw [trim_cons]
    by_cases c : b = 48
    · rw [if_pos c]; exact trim_head r
    · rw [if_neg c]; simpa using c
theorem trim_len : ∀ (l : List UInt8), (Lib.trimLeftB l 48).length ≤ l.length
  | [] => by simp [Lib.trimLeftB]
  | b :: r => by
    rw [trim_cons]
    by_cases c : b = 48
    · rw [if_pos c]; have := trim_len r; simp; omega
    · rw [if_neg c]; exact Nat.le_refl _
theorem trim_canon {l : List UInt8} (h : AllD l) (h0 : 0 < dv l) : Canon (Lib.trimLeftB l 48) :=
  ⟨trim_all h, fun e => by have := trim_dv l; rw [e] at this; simp [dv] at this; omega, .inr (trim_head l)⟩
def digU (d : Int) : UInt8 := UInt8.ofNat (48 + d.toNat)
theorem digU_nat {d : Int} (h0 : 0 ≤ d) (h1 : d ≤ 9) : ((digU d).toNat : Int) = 48 + d ∧ 48 ≤ (digU d).toNat ∧ (digU d).toNat ≤ 57 := by
  have e : (digU d).toNat = 48 + d.toNat := by
    unfold digU; rw [UInt8.toNat_ofNat']; exact Nat.mod_eq_of_lt (by omega)
  rw [e]; omega
/-- A row of n limbs has less than 10 n digits, and one more. -/
theorem p10_limbs {m n : Nat} (h : p10 m < pw (32 * (n : Int))) : m ≤ 10 * n := by
  rcases Nat.lt_or_ge (10 * n) m with c | c
  · exfalso
    have h1 : (4294967296 : Nat) ^ n ≤ 10 ^ (10 * n) := by
      rw [Nat.pow_mul]
      exact Nat.pow_le_pow_left (by decide) n
    have h2 : pw (32 * (n : Int)) = ((4294967296 ^ n : Nat) : Int) := by
      show ((2 ^ (32 * (n : Int)).toNat : Nat) : Int) = _
      rw [show (32 * (n : Int)).toNat = 32 * n by omega, Nat.pow_mul]
    have h3 := p10_mono (Nat.le_of_lt c)
    have h4 : ((4294967296 ^ n : Nat) : Int) ≤ p10 (10 * n) := Int.ofNat_le.2 h1
    omega
  · exact c
set_option exponentiation.threshold 10000 in
/-- What is longer than 2467 digits is too big. -/
theorem p10_big : pw 8192 ≤ p10 2467 := by
  show ((2 ^ 8192 : Nat) : Int) ≤ ((10 ^ 2467 : Nat) : Int)
  exact Int.ofNat_le.2 (by decide +kernel)
end Go.Proofs.YtmjidpkddiinaaaDoor

/-
  Rows of bytes of the call's own.
-/
namespace Go.Proofs.YtmjidpkddiinaaaDoor
open Go.RowKit Go.Shelf

theorem Tryd.infoB : (Tryd.prog.info? 5).map (fun i => (i.zero, i.size, i.bytes)) = some (some (.int .u8 0), 1, 1) := by kernel_rfl
theorem u8_oneCell (l : List Int) : ∀ u ∈ l.map (Value.int .u8), u.oneCell' = true := fun u hu => by
  obtain ⟨x, _, rfl⟩ := List.mem_map.1 hu; rfl
theorem wpList_mkB {w : World} {ops : Array Oper} {rest : List Oper} {o : Oper} {a : Act} {Q : Exit → Act → World → Prop} (hgd : o.guard = none) (s x : Operand) (ho : o.op = Op.makeSlice 89 s x)
    (base : Nat) (L C : Int) (n : Nat) (hs : a.eval s = .int .i64 L) (hx : a.eval x = .int .i64 C) (hL : L = (n : Int)) (hC : C = (n : Int)) (hn : n ≤ 2000000000) (hbase : base ≤ w.heap.size)
    (h : ∀ w', w'.ownsRow base 5 1 (.slice (some ⟨w.heap.size, 0, none⟩) n n) n ((List.replicate n (0 : Int)).map (Value.int .u8)) → Below base w w' → w.heap.size < w'.heap.size → wpList Tryd.prog ops Q rest (a.put o.dst (.slice (some ⟨w.heap.size, 0, none⟩) n n)) w') :
    wpList Tryd.prog ops Q (o :: rest) a w := by
  obtain ⟨i0, hi, hz0, hz1, hz2⟩ := info_parts Tryd.infoB
  refine wpList_make_full w hgd s x 89 ho base 5 i0 (.int .u8 0) 1 Tryd.underlying89 hi hz0 hz1 .i64 .i64 L C n hs hx hL hC (by rw [hz2]; omega) (by unfold maxLen; omega) hbase fun w' h1 h2 => ?_
  refine h w' ?_ ((Below.refl _ _).grown h2 hbase (fun k hk => by cases hk)) (h1.lt _ rfl).2
  have e : (madeCells (Value.int .u8 0).cells (n * 1)).toList = (List.replicate n (0 : Int)).map (Value.int .u8) := by
    rw [show (Value.int .u8 0).cells = #[Value.int .u8 0] from rfl, toList_madeCells_one, List.map_replicate, Nat.mul_one]
  rw [← e]; exact h1
theorem wpList_appB1 {w : World} {ops : Array Oper} {rest : List Oper} {o : Oper} {a : Act} {Q : Exit → Act → World → Prop} (hgd : o.guard = none) (s x : Operand)
    (ho : o.op = .call { callee := .builtin .append, args := #[s, x], argTypes := #[89, 89] })
    (base : Nat) (v : Value) (n : Nat) (l : List Int) (y : Int) (hown : w.ownsRow base 5 1 v n (l.map (Value.int .u8))) (hs : a.eval s = v)
    (hx : a.eval x = .slice (some ⟨w.heap.size, 0, none⟩) 1 1) (hb : n + 1 ≤ 2000000000) (hbase : base ≤ w.heap.size)
    (h : ∀ v' w', w'.ownsRow base 5 1 v' (n + 1) ((l ++ [y]).map (Value.int .u8)) → Below base w w' → wpList Tryd.prog ops Q rest (a.put o.dst v') w') : wpList Tryd.prog ops Q (o :: rest) a (w.alloc (.cells #[.int .u8 y] 5)) := by
  have h1 : Below base w (w.alloc (.cells #[.int .u8 y] 5)) := (Below.refl _ _).alloc hbase _
  obtain ⟨i0, hi, hz0, hz1, hz2⟩ := info_parts Tryd.infoB
  refine wpList_append_own _ hgd s x 89 ho base 5 i0 (.int .u8 0) 1 1 Tryd.underlying89 hi hz0 hz1 hz2 rfl (by decide) v n _ hs (hown.alloc _) ⟨w.heap.size, 0, none⟩ 1 1 ([y].map (Value.int .u8)) hx rfl ?_ (u8_oneCell _) (by unfold maxLen; omega) (by omega) (by simp; omega) ?_
  · intro j u hu
    obtain ⟨hj, rfl⟩ := List.getElem?_eq_some_iff.1 hu
    have : j = 0 := by simpa using hj
    subst this
    rw [Addr.add_lit, World.cell?_alloc_at _ _ _ _ rfl]; rfl
  · intro v' w' h3 h2 _
    refine h v' w' (by rw [List.map_append]; exact h3) ?_
    exact h1.trans ((Below.refl _ _).grown h2 (by simp; omega) (fun k hk => (hown.lt k hk).1))
/-- A row of bytes of the call's own, from its at-th byte on. -/
structure Tail (w : World) (g M at_ : Nat) (l : List UInt8) (o : List Int) : Prop where
  own : w.ownsRow g 5 1 (.slice (some ⟨g, 0, none⟩) M M) M (o.map (Value.int .u8))
  len : o.length = M
  at_le : at_ + l.length = M
  tl : o.drop at_ = l.map (fun b => (b.toNat : Int))
theorem rowB_cell {w : World} {base g N : Nat} {o : List Int} (h : w.ownsRow base 5 1 (.slice (some ⟨g, 0, none⟩) N N) N (o.map (Value.int .u8))) (j : Nat) (hj : j < N) : w.cell? ⟨g, j, none⟩ = some (.int .u8 (digV o j)) := by
  have hl : o.length = N := by have := h.1; simpa using this
  rw [h.cellAt j (by omega), digV_lt (by omega)]
  simp [show j < o.length by omega]
theorem rowB_set {w : World} {base g N : Nat} {o : List Int} (h : w.ownsRow base 5 1 (.slice (some ⟨g, 0, none⟩) N N) N (o.map (Value.int .u8))) (j : Nat) (x : Int) :
    (w.setCell ⟨g, j, none⟩ (.int .u8 x)).ownsRow base 5 1 (.slice (some ⟨g, 0, none⟩) N N) N ((o.set j x).map (Value.int .u8)) := by
  have := (h.stored j (.int .u8 x)).1
  rw [List.map_set]; exact this
theorem rowB_heap {w : World} {base g N : Nat} {o : List Int} (h : w.ownsRow base 5 1 (.slice (some ⟨g, 0, none⟩) N N) N (o.map (Value.int .u8))) :
    base ≤ g ∧ o.length = N ∧ N ≤ maxLen ∧ w.heap[g]? = some (.cells (o.map (Value.int .u8)).toArray 5 (0, 0)) := by
  obtain ⟨h1, h2⟩ := h
  rcases h2 with ⟨e, _⟩ | ⟨g', cap, cur, e, hb, hh, c1, c2, c3, c4⟩
  · cases e
  · cases e
    refine ⟨hb, by simpa using h1, c2, ?_⟩
    rw [hh, ← c4, Nat.mul_one, List.take_of_length_le (by simp [c3])]
theorem heap_rowB {w : World} {base g N : Nat} {o : List Int} (hb : base ≤ g) (hl : o.length = N) (hN : N ≤ maxLen) (hh : w.heap[g]? = some (.cells (o.map (Value.int .u8)).toArray 5 (0, 0))) :
    w.ownsRow base 5 1 (.slice (some ⟨g, 0, none⟩) N N) N (o.map (Value.int .u8)) :=
  ⟨by simp [hl], .inr ⟨g, N, _, rfl, hb, hh, Nat.le_refl _, hN, by simp [hl], by rw [Nat.mul_one]; exact List.take_of_length_le (by simp [hl])⟩⟩
theorem Tail.put {w : World} {g M at_ : Nat} {l : List UInt8} {o : List Int} (h : Tail w g M (at_ + 1) l o) (b : UInt8) :
    Tail (w.setCell ⟨g, at_, none⟩ (.int .u8 (b.toNat : Int))) g M at_ (b :: l) (o.set at_ (b.toNat : Int)) := by
  have hl := h.len
  have ha := h.at_le
  refine ⟨rowB_set h.own at_ _, by simp [hl], by simp; omega, ?_⟩
  rw [List.map_cons, ← h.tl]
  apply List.ext_getElem?
  intro j
  rw [List.getElem?_drop]
  cases j with
  | zero => rw [Nat.add_zero, List.getElem?_set_self (by omega)]; rfl
  | succ j =>
    rw [List.getElem?_set_ne (by omega), List.getElem?_cons_succ, List.getElem?_drop]
    congr 1; omega
theorem Tail.start {w : World} {g M : Nat} {o : List Int} (h : w.ownsRow g 5 1 (.slice (some ⟨g, 0, none⟩) M M) M (o.map (Value.int .u8))) : Tail w g M M [] o := by
  have hl : o.length = M := by have := h.1; simpa using this
  exact ⟨h, hl, by simp, by rw [List.drop_eq_nil_of_le (by omega)]; rfl⟩
theorem Tail.below {w w' : World} {g M at_ : Nat} {l : List UInt8} {o : List Int} (h : Tail w g M at_ l o) (k : ∀ b, b = g → w'.heap[b]? = w.heap[b]?) : Tail w' g M at_ l o := by
  obtain ⟨h1, h2, h3, h4⟩ := rowB_heap h.own
  exact ⟨heap_rowB h1 h2 h3 (by rw [k g rfl]; exact h4), h.len, h.at_le, h.tl⟩
theorem Tail.cell {w : World} {g M at_ : Nat} {l : List UInt8} {o : List Int} (h : Tail w g M at_ l o) (j : Nat) (hj : j < l.length) : w.cell? ⟨g, at_ + j, none⟩ = some (.int .u8 (l[j].toNat : Int)) := by
  have ha := h.at_le
  rw [rowB_cell h.own (at_ + j) (by omega)]
  have e : digV o (at_ + j) = (l[j].toNat : Int) := by
    unfold digV
    have := congrArg (fun x => x[j]?) h.tl
    simp only [List.getElem?_drop] at this
    rw [this, List.getElem?_map, List.getElem?_eq_getElem hj]; rfl
  rw [e]
/-- 'string(row[at:])'. -/
theorem Tail.str {w : World} {g M at_ : Nat} {l : List UInt8} {o : List Int} (h : Tail w g M at_ l o) (c : Nat) (n : Nat) (hn : n = l.length) :
    (convert 89 9 (.slice (some ⟨g, at_, none⟩) n c)).run Tryd.prog w = .ok (.string ⟨l.toArray⟩) w := by
  subst hn
  exact run_convert_bytes_back w 89 9 5 ⟨g, at_, none⟩ c l Tryd.underlying89 Tryd.underlying5 Tryd.underlying9 (fun j hj => by
    rw [Addr.add_lit]; exact h.cell j hj)
end Go.Proofs.YtmjidpkddiinaaaDoor

/-
  Package nat: Digits: walked.
-/
namespace Go.Proofs.YtmjidpkddiinaaaDoor
open Go.RowKit Go.Shelf

def DigPost (v : Int) (w : World) (e : Ending) (w' : World) : Prop :=
  ∃ l : List UInt8, e = .returned (.string ⟨l.toArray⟩) ∧ Canon l ∧ dv l = v ∧ Below w.heap.size w w'
theorem dig_step {Q P R L d V : Int} (h : (Q * (10 * P) + R) * L + d = V) : (Q * P + R / 10) * (10 * L) + (R % 10 * L + d) = V := by
  have e : Q * (10 * P) + R = (Q * P + R / 10) * 10 + R % 10 := by
    rw [Int.add_mul, Int.mul_left_comm Q 10 P, Int.mul_comm 10 (Q * P)]; omega
  rw [e, Int.add_mul, Int.mul_assoc] at h
  omega
set_option maxRecDepth 100000 in
set_option maxHeartbeats 4000000 in
theorem ndigits_any (A : Option Addr) (n c : Nat) (a : List Int) (w : World) (h : Sl w w.heap.size A n c a) (hn : n ≤ 3000) :
    Calls Tryd.prog 39 #[.slice A n c] w (DigPost (natV a) w) := by
  have TR := Lib.hid (ntrim_row A n c a w h (by omega))
  obtain ⟨V, hV⟩ : ∃ V, natV a = V := ⟨_, rfl⟩
  have V0 : 0 ≤ V := by rw [← hV]; exact natV_nonneg h.lim
  rw [hV] at TR ⊢
  clear h hV
  go_enter Tryd.func39, Tryd.ntmps39
  go_wp2_with fail
  refine TR.out.mono ?_
  rintro e w1 ⟨N, x, Nn, rfl, hown, xl, xn, xv, hb1⟩
  clear TR
  by_cases z : N = 0
  · subst z
    have ex : x = [] := List.eq_nil_of_length_eq_zero (own_of hown).len
    have fin : Hid (DigPost V w (.returned (.string ⟨[48].toArray⟩)) w1) :=
      ⟨[48], rfl, ⟨fun b hb => by rw [List.mem_singleton.1 hb]; decide, by simp, .inl rfl⟩, by rw [← xv, ex]; rfl, hb1⟩
    clear hown xl xn xv hb1 ex
    go_wp2
    go_ret
    exact fin.out
  · have Nz : ¬ (N : Int) = 0 := by omega
    have Nz2 : ((N : Int) == 0) = false := by simpa using Nz
    have Nb : (N : Int) ≤ 3000 := by omega
    obtain ⟨M, hM⟩ : ∃ M, N * 10 + 9 = M := ⟨_, rfl⟩
    have EM := Lib.hid (show (N : Int) * 10 + 9 = (M : Int) by omega)
    have HM := Lib.hid hM
    have Mb : M ≤ 40000 := by omega
    have own := Lib.hid (own_of hown)
    have B1 := Lib.hid hb1
    have xV := Lib.hid xv
    have xL := Lib.hid xl
    have xN := Lib.hid xn
    clear hown xl xn xv hb1 hM
    go_wp2_with (at_make; go_loud (refine wpList_mkB rfl _ _ rfl w1.heap.size _ _ M rfl rfl EM.out EM.out (by omega) (Nat.le_refl _) ?_); intro w2 hown2 hb2 hz2)
    obtain ⟨g1, hg1⟩ : ∃ g, w.heap.size = g := ⟨_, rfl⟩
    obtain ⟨g2, hg2⟩ : ∃ g, w1.heap.size = g := ⟨_, rfl⟩
    have o2 := Lib.hid (own.out.below hb2 own.out.lt)
    have B2 := Lib.hid (B1.out.trans (hb2.mono B1.out.size))
    have t2 := Lib.hid (Tail.start hown2)
    have gg : g1 < g2 := by rw [← hg1, ← hg2]; exact own.out.lt
    have HG1 := Lib.hid hg1
    rw [hg1] at o2 B2
    rw [hg2] at t2
    rw [hg1, hg2]
    have VB : Hid (V < pw (32 * (N : Int))) := by
      have := natV_lt xL.out
      rw [own.out.len, xV.out] at this; exact this
    have VP : Hid (0 < V) := by
      have := natV_pos xL.out xN.out (fun e => z (by have := own.out.len; rw [e] at this; simpa using this.symm))
      unfold Hid; rw [← xV.out]; exact this
    have hz0 : Hid (∀ t : Nat, N ≤ t → digV x t = 0) := fun t ht => digV_ge (by rw [own.out.len]; exact ht)
    have xt : Hid (x.take N = x) := List.take_of_length_le (by rw [own.out.len]; exact Nat.le_refl _)
    clear hown2 hb2 hz2 hg1 hg2 own B1
    go_loopw [3, 5] (fun lv av wx => ∃ (k at_ : Nat) (x' : List Int) (D : List UInt8) (o : List Int), lv = .slice (some ⟨g1, 0, none⟩) k N ∧ av = .int .i64 (at_ : Int) ∧ k ≤ N ∧ Hid (Own wx g1 N x' ∧ (∀ t ∈ x', Limb t) ∧ (∀ t : Nat, k ≤ t → digV x' t = 0) ∧ Norm (x'.take k) ∧ Tail wx g2 M at_ D o ∧ AllD D ∧ natV x' * p10 D.length + dv D = V ∧ Below g1 w wx)) (fun _ av _ => (intOf av).toNat)
    case atStart => exact ⟨N, M, x, [], _, rfl, rfl, Nat.le_refl _, o2.out, xL.out, hz0.out, by rw [xt.out]; exact xN.out, t2.out, (fun b hb => by cases hb), by rw [xV.out, show dv [] = 0 from rfl, show p10 ([] : List UInt8).length = 1 from rfl]; omega, B2.out⟩
    case round =>
      obtain ⟨k, at_, x', D, o, rfl, rfl, kN, HI⟩ := hrel
      clear o2 t2 B2 xL xN xV hz0 xt
      have aM := HI.out.2.2.2.2.1.at_le
      by_cases k0 : 0 < k
      · have k0' : (0 : Int) < (k : Int) := by omega
        have kb : (k : Int) ≤ 3000 := by omega
        have DS := Lib.hid (nshort_any g1 N k N x' 1000000000 wr HI.out.1 HI.out.2.1 kN (by omega) HI.out.2.2.1 ⟨by decide, by decide⟩ (by decide))
        have x1 : 1 ≤ natV x' := by
          have := natV_pos (limbs_take HI.out.2.1 k) HI.out.2.2.2.1 (fun e => by
            have := congrArg List.length e
            rw [List.length_take, HI.out.1.len] at this; simp at this; omega)
          rw [natV_take_zero HI.out.2.2.1] at this; omega
        have DL : D.length ≤ 10 * N := by
          apply p10_limbs
          have := VB.out
          have e := HI.out.2.2.2.2.2.2.1
          have d0 := (dv_bounds HI.out.2.2.2.2.2.1).1
          have := Int.mul_le_mul_of_nonneg_right x1 (Int.le_of_lt (p10_pos D.length))
          omega
        have M9 := HM.out
        go_wp2_with fail
        refine DS.out.mono ?_
        rintro e w4 ⟨o1, rfl, own1, ol, ov, oz, only⟩
        have SO := (row_sl own1 ol).take kN
        have CO := Lib.hid (core_sl _ k N (o1.take k) w4 SO (by omega))
        have ezt := natV_take_zero oz
        have T4 := Lib.hid (HI.out.2.2.2.2.1.below (w' := w4) (fun b hb => by subst hb; exact only.block _ (by omega)))
        have B4 := Lib.hid (HI.out.2.2.2.2.2.2.2.trans (only.below (Nat.le_refl _)))
        have ev : natV x' = natV o1 * p10 9 + natV x' % 1000000000 := by
          rw [ov, show p10 9 = 1000000000 from rfl]; omega
        obtain ⟨R, hR⟩ : ∃ R, natV x' % 1000000000 = R := ⟨_, rfl⟩
        have R0 : 0 ≤ R := by omega
        have R1 : R < p10 9 := by rw [show p10 9 = 1000000000 from rfl]; omega
        rw [hR] at ev
        rw [hR]
        have st := Lib.hid (show (natV o1 * p10 9 + R) * p10 D.length + dv D = V by rw [← ev]; exact HI.out.2.2.2.2.2.2.1)
        have O4 := Lib.hid (show Own w4 g1 N o1 ∧ (∀ t ∈ o1, Limb t) from ⟨own1, ol⟩)
        have AD := Lib.hid HI.out.2.2.2.2.2.1
        have EZ := Lib.hid ezt
        clear HI DS own1 ol ov oz only SO ev hR ezt
        go_wp2_with fail
        refine CO.out.mono ?_
        rintro e w5 ⟨k2, k2n, nk2, ek2, rfl, rfl⟩
        have K2 := Lib.hid (show Norm (o1.take k2) ∧ (∀ t : Nat, k2 ≤ t → digV o1 t = 0) by
          rw [List.take_take, Nat.min_eq_left k2n] at nk2 ek2
          rw [EZ.out] at ek2
          exact ⟨nk2, digs_zero O4.out.2 (by rw [← ek2]; exact natV_take_lt O4.out.2 k2)⟩)
        clear nk2 ek2 CO
        have R1 := Lib.hid R1
        go_wp2
        go_loopw [5, 6, 26] (fun av rv iv wy => ∃ (t at2 : Nat) (R' : Int) (D' : List UInt8) (o' : List Int), iv = .int .i64 (t : Int) ∧ av = .int .i64 (at2 : Int) ∧ rv = .int .u32 R' ∧ t ≤ 9 ∧ 0 ≤ R' ∧ Hid (R' < p10 (9 - t)) ∧ D'.length = D.length + t ∧ Hid (Tail wy g2 M at2 D' o' ∧ AllD D' ∧ (natV o1 * p10 (9 - t) + R') * p10 D'.length + dv D' = V ∧ Own wy g1 N o1 ∧ Below g1 w wy)) (fun _ _ iv _ => 9 - (intOf iv).toNat)
        case atStart => exact ⟨0, at_, R, D, o, rfl, rfl, rfl, by omega, R0, R1, rfl, T4.out, AD.out, st.out, O4.out.1, B4.out⟩
        case round =>
          obtain ⟨t, at2, R', D', o', rfl, rfl, rfl, t9, R0', R1', dl, HJ⟩ := hrel
          clear T4 B4 st AD EZ
          have a2 := HJ.out.1.at_le
          by_cases tl : t < 9
          · have tl' : (t : Int) < 9 := by omega
            obtain ⟨at3, rfl⟩ : ∃ at3, at2 = at3 + 1 := ⟨at2 - 1, by omega⟩
            have ea : ((at3 + 1 : Nat) : Int) - 1 = (at3 : Int) := by omega
            have wa : IntKind.i64.wrap (((at3 + 1 : Nat) : Int) - 1) = (at3 : Int) := by rw [ea, IntKind.wrap_i64]; omega
            obtain ⟨u1, u2, u3⟩ := digU_nat (d := R' % 10) (by omega) (by omega)
            have T5 := Lib.hid (HJ.out.1.put (digU (R' % 10)))
            rw [u1] at T5
            have e9 : 9 - t = (9 - (t + 1)) + 1 := by omega
            have r1 := R1'.out
            have nv := HJ.out.2.2.1
            rw [e9, p10_succ] at r1 nv
            have nx := Lib.hid (dig_step nv)
            have fr : World.frozen? _ ⟨g2, at3, none⟩ = false := HJ.out.1.own.frozenAt at3
            have cell := rowB_cell HJ.out.1.own at3 (by omega)
            have AD5 : Hid (AllD (digU (R' % 10) :: D')) := fun b hb => by
              rcases List.mem_cons.1 hb with rfl | hb
              · exact ⟨u2, u3⟩
              · exact HJ.out.2.1 b hb
            have DV5 : Hid (dv (digU (R' % 10) :: D') = R' % 10 * p10 D'.length + dv D') := by
              unfold Hid; rw [dv, u1]; congr 2; omega
            have OB := Lib.hid (show Own _ g1 N o1 ∧ Below g1 w _ from ⟨HJ.out.2.2.2.1.only ((Only.refl g2 _).setCell at3 (.int .u8 (48 + R' % 10))) (by omega), HJ.out.2.2.2.2.trans (((Only.refl g2 _).setCell at3 (.int .u8 (48 + R' % 10))).below (by omega))⟩)
            have r2 : Hid (R' / 10 < p10 (9 - (t + 1))) := by unfold Hid; omega
            have aM2 : (at3 : Int) < (M : Int) := by omega
            have a30 : (0 : Int) ≤ (at3 : Int) := by omega
            have d0 : 0 ≤ R' % 10 := by omega
            have d1 : R' % 10 ≤ 9 := by omega
            have rb : R' < 4294967296 := by
              have := p10_mono (show 9 - t ≤ 9 by omega)
              rw [show p10 9 = 1000000000 from rfl] at this
              have := R1'.out; omega
            generalize digV o' at3 = Z at *
            clear HJ r1 nv R1' u1 u2 u3 e9
            go_wp2
            go_roundw
            case rel => exact ⟨t + 1, at3, R' / 10, _, _, by go_num, rfl, rfl, by omega, by omega, r2, by simp; omega, T5.out, AD5.out, by rw [DV5.out, List.length_cons, p10_succ]; exact nx.out, OB.out⟩
            case measure => simp [intOf]; omega
          · obtain rfl : t = 9 := by omega
            have rz : R' = 0 := by have := R1'.out; rw [show p10 (9 - 9) = 1 from rfl] at this; omega
            have nv := HJ.out.2.2.1
            rw [rz, show p10 (9 - 9) = 1 from rfl, Int.mul_one, Int.add_zero] at nv
            have nv := Lib.hid nv
            clear R1'
            go_wp2
            go_roundw
            case rel => exact ⟨k2, at2, o1, D', o', rfl, rfl, by omega, HJ.out.2.2.2.1, O4.out.2, K2.out.2, K2.out.1, HJ.out.1, HJ.out.2.1, nv.out, HJ.out.2.2.2.2⟩
            case measure => simp [intOf]; omega
      · obtain rfl : k = 0 := by omega
        have xz : natV x' = 0 := by rw [← natV_take_zero HI.out.2.2.1, List.take_zero]; rfl
        have ed := HI.out.2.2.2.2.2.2.1
        rw [xz, Int.zero_mul, Int.zero_add] at ed
        have STR := HI.out.2.2.2.2.1.str (M - at_) (M - at_) (by omega)
        have TL := Lib.hid (Tryd.strings_TrimLeft_one ⟨D.toArray⟩ 48 (by decide) wr)
        have fin : Hid (DigPost V w (.returned (.string ⟨(Lib.trimLeftB D 48).toArray⟩)) wr) :=
          ⟨_, rfl, trim_canon HI.out.2.2.2.2.2.1 (by rw [ed]; exact VP.out), by rw [trim_dv, ed], by rw [HG1.out]; exact HI.out.2.2.2.2.2.2.2⟩
        have dl : 0 < D.length := by
          rcases Nat.eq_zero_or_pos D.length with c | c
          · rw [List.eq_nil_of_length_eq_zero c] at ed
            have := VP.out
            rw [← ed] at this; exact absurd this (by decide)
          · exact c
        have aM' : (at_ : Int) ≤ (M : Int) := by omega
        have aM3 : (at_ : Int) < (M : Int) := by omega
        have aM4 : at_ < M := by omega
        have aM5 : ¬ M = at_ := by omega
        have aM6 : ¬ M - at_ = 0 := by omega
        clear HI ed xz
        go_wp2_with fail
        refine TL.out.mono ?_
        rintro e w5 ⟨rfl, rfl⟩
        go_wp2
        go_ret
        exact fin.out
end Go.Proofs.YtmjidpkddiinaaaDoor

/-
  The document's naturals: Trim, with its row; Digits: walked.
-/
namespace Go.Proofs.YtmjidpkddiinaaaDoor
open Go.RowKit Go.Shelf

/-- A row of the call's own: the number, right. -/
def RowVPost (x : Int) (w : World) (e : Ending) (w' : World) : Prop :=
  ∃ (v : Value) (n : Nat) (l : List Int), e = .returned v ∧ w'.ownsRow w.heap.size 66 1 v n (l.map (Value.int .u32)) ∧ (∀ t ∈ l, Limb t) ∧ Norm l ∧ natV l = x ∧ Below w.heap.size w w'
theorem trim_end_own {w w1 : World} {l : List Int} {k : Nat} {v : Value} (hl : ∀ x ∈ l, Limb x) (hk : k ≤ l.length) (hz : ∀ i : Nat, k ≤ i → (hi : i < l.length) → l[i] = 0) (hx : k = 0 ∨ ∃ j : Nat, ∃ hj : j < l.length, k = j + 1 ∧ l[j] ≠ 0)
    (hown : w1.ownsRow w.heap.size 66 1 v (0 + k) (([] ++ l.take k).map (Value.int .u32))) (hb : Below w.heap.size w w1) : RowVPost (natV l) w (.returned v) w1 := by
  rw [Nat.zero_add, List.nil_append] at hown
  exact ⟨v, k, l.take k, rfl, hown, limbs_take hl k, norm_take hk hx, natV_core hz, hb⟩
set_option maxHeartbeats 1000000 in
theorem rtrim_own (A : Option Addr) (n c : Nat) (l : List Int) (w : World) (h : Sl w w.heap.size A n c l) (hn : n ≤ 1000000000) :
    Calls Tryd.prog 14 #[.slice A n c] w (RowVPost (natV l) w) := by
  obtain ⟨hlen, hcap, hmax, hlim, hnil, hrd⟩ := h
  have HL := Lib.hid hlim
  unfold maxLen at hmax
  have HE := Lib.hid (fun (k : Nat) (v : Value) (w1 : World) hk hz hx => @trim_end_own w w1 l k v hlim hk hz hx)
  have b1 : Below w.heap.size w (w.alloc (.cells #[] 66)) := (Below.refl _ _).alloc (Nat.le_refl _) _
  have B1 := Lib.hid b1; clear b1 hlim
  rcases hrd with h0 | ⟨b, o, rfl, hb, hc⟩
  · subst h0
    have fin := Lib.hid (fun (v : Value) (w1 : World) => HE.out 0 v w1 (by omega) (fun i _ hi => by omega) (.inl rfl))
    have fin2 := Lib.hid (show RowVPost (natV l) w (.returned (.slice (some ⟨w.heap.size, 0, none⟩) 0 0)) (w.alloc (.cells #[] 66)) from fin.out _ _ (empty_own w) B1.out)
    clear hlen HE fin
    rcases A with _ | ad
    · obtain ⟨_, rfl⟩ := hnil rfl
      clear hnil
      go_enter Tryd.func14, Tryd.ntmps14
      go_wp2
      refine wp_loop_rounds 1 ?_
      rw [rounds_succ]
      go_wp2
      go_ret
      exact fin2.out
    · clear hnil
      have hk0 : (0 : Int) ≤ (c : Int) := by omega
      go_enter Tryd.func14, Tryd.ntmps14
      go_wp2
      refine wp_loop_rounds 1 ?_
      rw [rounds_succ]
      go_wp2
      go_ret
      exact fin2.out
  · have HC := Lib.hid hc
    subst hlen
    clear hc hnil
    go_enter Tryd.func14, Tryd.ntmps14
    go_wp2
    go_loopw [3] (fun n wr => ∃ k : Nat, k ≤ l.length ∧ n = .int .i64 (k : Int) ∧ Hid (∀ i : Nat, k ≤ i → (hi : i < l.length) → l[i] = 0) ∧ w = wr) (fun n _ => (intOf n).toNat)
    case atStart => exact ⟨l.length, Nat.le_refl _, rfl, fun i h1 h2 => by omega, rfl⟩
    case round =>
      obtain ⟨k, hk, rfl, hz, rfl⟩ := hrel
      have hkc : (k : Int) ≤ (c : Int) := by omega
      cases k with
      | zero =>
        have hk0 : (0 : Int) ≤ (c : Int) := by omega
        have fin := Lib.hid (fun (v : Value) (w1 : World) => HE.out 0 v w1 (by omega) hz.out (.inl rfl))
        clear HC hz hkc hk HE
        go_wp2
        go_ret
        exact fin.out _ _ (empty_own w) B1.out
      | succ j =>
        have hj : j < l.length := by omega
        have cell : w.cell? ⟨b, o + j, none⟩ = some (.int .u32 l[j]) := HC.out j hj
        have jl : (j : Int) < (l.length : Int) := by omega
        have hj0 : (0 : Int) < (j : Int) + 1 := by omega
        have ej : ((j + 1 : Nat) : Int) = (j : Int) + 1 := by omega
        have hkc2 : (j : Int) + 1 ≤ (c : Int) := by omega
        by_cases hx : l[j] = 0
        · have hz2 : Hid (∀ i : Nat, j ≤ i → (hi : i < l.length) → l[i] = 0) := fun i h1 h2 => by
            rcases Nat.eq_or_lt_of_le h1 with e | e
            · subst e; exact hx
            · exact hz.out i (by omega) h2
          rw [hx] at cell
          clear hx HC hz HE
          go_wp2
          go_roundw
          case rel => exact ⟨j, by omega, by go_num, hz2, by first | trivial | rfl⟩
          case measure => simp [intOf]
        · have fin := Lib.hid (fun (v : Value) (w1 : World) => HE.out (j + 1) v w1 (by omega) hz.out (.inr ⟨j, hj, rfl, hx⟩))
          have hxb : (l[j] == 0) = false := by simpa using hx
          have HN : Hid (∀ i : Nat, (h : i < (l.take (j + 1)).length) → (w.alloc (.cells #[] 66)).cell? ((⟨b, o, none⟩ : Addr).add i) = some (.int .u32 (l.take (j + 1))[i])) := fun i hi => by
            rw [Addr.add_lit, B1.out.cell (p := ⟨b, o + i, none⟩) hb]
            simp at hi
            rw [HC.out i (by omega)]; simp
          have HM := Lib.hid (show (l.take (j + 1)).length = j + 1 by simp; omega)
          generalize l[j] = x at *
          clear HC hz HE
          go_wp2_with (at_builtin; refine wpList_app rfl _ _ rfl w.heap.size _ 0 [] (empty_own w) rfl ⟨b, o, none⟩ (j + 1) c (l.take (j + 1)) rfl HM.out HN.out (by omega) (by simp) ?_; intro v1 w1 hown hb1)
          go_ret
          exact fin.out _ _ hown (B1.out.trans hb1)

/-- Rows of unlike elements are apart. -/
theorem rows_apart {w : World} {b b' e e' n n' : Nat} {v v' : Value} {xs xs' : List Value} (h : w.ownsRow b e 1 v n xs) (h' : w.ownsRow b' e' 1 v' n' xs') (he : e ≠ e') : v.ownBlock = none ∨ v.ownBlock ≠ v'.ownBlock := by
  rcases h.2 with ⟨rfl, _⟩ | ⟨g, cap, cur, rfl, _, hh, _⟩
  · exact .inl rfl
  · right
    rcases h'.2 with ⟨rfl, _⟩ | ⟨g', cap', cur', rfl, _, hh', _⟩
    · intro z; cases z
    · intro z
      have e1 : g = g' := by simpa [Value.ownBlock] using z
      subst e1
      rw [hh] at hh'
      simp only [Option.some.injEq, Obj.cells.injEq] at hh'
      exact he hh'.2.1
theorem wpList_appB {w : World} {ops : Array Oper} {rest : List Oper} {o : Oper} {a : Act} {Q : Exit → Act → World → Prop} (hgd : o.guard = none) (s x : Operand)
    (ho : o.op = .call { callee := .builtin .append, args := #[s, x], argTypes := #[89, 89] })
    (base : Nat) (v : Value) (n : Nat) (l : List Int) (y : Int) (hown : w.ownsRow base 5 1 v n (l.map (Value.int .u8))) (hs : a.eval s = v)
    (hx : a.eval x = .slice (some ⟨w.heap.size, 0, none⟩) 1 1) (hb : n + 1 ≤ 2000000000) (hbase : base ≤ w.heap.size)
    (h : ∀ v' w', w'.ownsRow base 5 1 v' (n + 1) ((l ++ [y]).map (Value.int .u8)) → Below base w w' → (∀ (b2 e2 n2 : Nat) (v2 : Value) (xs2 : List Value), w.ownsRow b2 e2 1 v2 n2 xs2 → (v2.ownBlock = none ∨ v2.ownBlock ≠ v.ownBlock) → w'.ownsRow b2 e2 1 v2 n2 xs2) → wpList Tryd.prog ops Q rest (a.put o.dst v') w') : wpList Tryd.prog ops Q (o :: rest) a (w.alloc (.cells #[.int .u8 y] 5)) := by
  have h1 : Below base w (w.alloc (.cells #[.int .u8 y] 5)) := (Below.refl _ _).alloc hbase _
  obtain ⟨i0, hi, hz0, hz1, hz2⟩ := info_parts Tryd.infoB
  refine wpList_append_own _ hgd s x 89 ho base 5 i0 (.int .u8 0) 1 1 Tryd.underlying89 hi hz0 hz1 hz2 rfl (by decide) v n _ hs (hown.alloc _) ⟨w.heap.size, 0, none⟩ 1 1 ([y].map (Value.int .u8)) hx rfl ?_ (u8_oneCell _) (by unfold maxLen; omega) (by omega) (by simp; omega) ?_
  · intro j u hu
    obtain ⟨hj, rfl⟩ := List.getElem?_eq_some_iff.1 hu
    have : j = 0 := by simpa using hj
    subst this
    rw [Addr.add_lit, World.cell?_alloc_at _ _ _ _ rfl]; rfl
  · intro v' w' h3 h2 _
    exact h v' w' (by rw [List.map_append]; exact h3) (h1.trans ((Below.refl _ _).grown h2 (by simp; omega) (fun k hk => (hown.lt k hk).1))) (fun b2 e2 n2 v2 xs2 z1 z2 => (z1.alloc _).kept h2 z2)
theorem rowc_cell {w : World} {base g n cap : Nat} {o : List Int} {T : TypeId} {kd : IntKind} (h : w.ownsRow base T 1 (.slice (some ⟨g, 0, none⟩) n cap) n (o.map (Value.int kd))) (j : Nat) (hj : j < n) : w.cell? ⟨g, j, none⟩ = some (.int kd (digV o j)) := by
  have hl : o.length = n := by have := h.1; simpa using this
  rw [h.cellAt j (by omega), digV_lt (by omega)]
  simp [show j < o.length by omega]
theorem rowc_set {w : World} {base g n cap : Nat} {o : List Int} {T : TypeId} {kd : IntKind} (h : w.ownsRow base T 1 (.slice (some ⟨g, 0, none⟩) n cap) n (o.map (Value.int kd))) (j : Nat) (x : Int) :
    (w.setCell ⟨g, j, none⟩ (.int kd x)).ownsRow base T 1 (.slice (some ⟨g, 0, none⟩) n cap) n ((o.set j x).map (Value.int kd)) := by
  have := (h.stored j (.int kd x)).1
  rw [List.map_set]; exact this
/-- A row is as it was where another block alone is changed. -/
theorem row_only {w w' : World} {g base e n : Nat} {v : Value} {xs : List Value} (h : w.ownsRow base e 1 v n xs) (k : Only g w w') (hg : v.ownBlock ≠ some g) : w'.ownsRow base e 1 v n xs := by
  refine ⟨h.1, ?_⟩
  rcases h.2 with z | ⟨g', cap, cur, rfl, h1, h2, h3⟩
  · exact .inl z
  · exact .inr ⟨g', cap, cur, rfl, h1, by rw [k.block g' (fun z => hg (by rw [z]; rfl))]; exact h2, h3⟩
theorem row_below' {w w' : World} {base e n B : Nat} {v : Value} {xs : List Value} (h : w.ownsRow base e 1 v n xs) (k : Below B w w') (hB : ∀ g, v.ownBlock = some g → g < B) : w'.ownsRow base e 1 v n xs := by
  refine ⟨h.1, ?_⟩
  rcases h.2 with z | ⟨g', cap, cur, rfl, h1, h2, h3⟩
  · exact .inl z
  · exact .inr ⟨g', cap, cur, rfl, h1, by rw [k.block g' (hB g' rfl)]; exact h2, h3⟩
def lenOf : Value → Nat
  | .slice _ n _ => n
  | _ => 0
theorem own_lenOf {w : World} {base e n : Nat} {v : Value} {xs : List Value} (h : w.ownsRow base e 1 v n xs) : lenOf v = n := by
  rcases h.2 with ⟨rfl, rfl⟩ | ⟨g', cap, cur, rfl, _⟩ <;> rfl
theorem row_base {w : World} {base base' e n : Nat} {v : Value} {xs : List Value} (h : w.ownsRow base e 1 v n xs) (hb : base' ≤ base) : w.ownsRow base' e 1 v n xs := by
  refine ⟨h.1, ?_⟩
  rcases h.2 with z | ⟨g', cap, cur, rfl, h1, h2⟩
  · exact .inl z
  · exact .inr ⟨g', cap, cur, rfl, by omega, h2⟩
theorem dig_ten {X R L D V : Int} (h : X * L + D = V) (hr : R = X % 10) : X / 10 * (10 * L) + (R * L + D) = V := by
  have e : X = X / 10 * 10 + R := by omega
  rw [e, Int.add_mul, Int.mul_assoc] at h
  omega
theorem Sl.of_row {w : World} {base : Nat} {v : Value} {n : Nat} {l : List Int} (h : w.ownsRow base 66 1 v n (l.map (Value.int .u32))) (hl : ∀ x ∈ l, Limb x) : ∃ A c, v = .slice A n c ∧ Sl w w.heap.size A n c l := by
  obtain ⟨A, c, e, hs, _⟩ := Sl.of_own h hl
  exact ⟨A, c, e, hs⟩
theorem rev_snoc (b : UInt8) (D : List UInt8) : ((D.map (fun b => (b.toNat : Int))).reverse ++ [(b.toNat : Int)]) = ((b :: D).map (fun b => (b.toNat : Int))).reverse := by
  rw [List.map_cons, List.reverse_cons]
set_option maxRecDepth 100000 in
set_option maxHeartbeats 8000000 in
theorem rdigits_any (A : Option Addr) (n c : Nat) (a : List Int) (w : World) (h : Sl w w.heap.size A n c a) (hn : n ≤ 3000) :
    Calls Tryd.prog 40 #[.slice A n c] w (DigPost (natV a) w) := by
  have TR := Lib.hid (rtrim_own A n c a w h (by omega))
  obtain ⟨V, hV⟩ : ∃ V, natV a = V := ⟨_, rfl⟩
  have nb := Lib.hid (show ∀ m : List Int, (∀ x ∈ m, Limb x) → Norm m → natV m = V → m.length ≤ n from fun m h1 h2 h3 => norm_len h1 h2 (by rw [h3, ← hV, ← h.len]; exact natV_lt h.lim))
  rw [hV] at TR ⊢
  clear h hV
  go_enter Tryd.func40, Tryd.ntmps40
  go_wp2_with fail
  refine TR.out.mono ?_
  rintro e w1 ⟨xv, N, x, rfl, hown, xl, xn, ev, hb1⟩
  have Nn := nb.out x xl xn ev
  obtain ⟨A1, c1, rfl, hs⟩ := Sl.of_row hown xl
  have lx := hs.len
  rw [lx] at Nn
  clear TR nb hs
  by_cases z : N = 0
  · subst z
    have ex : x = [] := List.eq_nil_of_length_eq_zero lx
    have fin : Hid (DigPost V w (.returned (.string ⟨[48].toArray⟩)) w1) :=
      ⟨[48], rfl, ⟨fun b hb => by rw [List.mem_singleton.1 hb]; decide, by simp, .inl rfl⟩, by rw [← ev, ex]; rfl, hb1⟩
    clear hown xl xn ev hb1 ex lx
    go_wp2
    go_ret
    exact fin.out
  · have Nz : ¬ (N : Int) = 0 := by omega
    have Nz2 : ((N : Int) == 0) = false := by simpa using Nz
    have Nb : (N : Int) ≤ 3000 := by omega
    obtain ⟨B, hB⟩ : ∃ B, w.heap.size = B := ⟨_, rfl⟩
    have VB : Hid (V < pw (32 * (N : Int))) := by
      have := natV_lt xl
      rw [lx, ev] at this; exact this
    have VP : Hid (0 < V) := by
      have := natV_pos xl xn (fun e => z (by rw [e] at lx; simpa using lx.symm))
      unfold Hid; rw [← ev]; exact this
    rw [hB] at hown hb1
    have HW := Lib.hid hB
    have hown := Lib.hid hown
    have B1 := Lib.hid hb1
    have xV := Lib.hid ev
    have xL := Lib.hid xl
    have xN := Lib.hid xn
    have lX := Lib.hid lx
    clear xl xn ev hb1 lx hB
    go_wp2
    go_loopw [3, 4] (fun xv lv wx => ∃ (k m : Nat) (x' : List Int) (D : List UInt8), Hid (wx.ownsRow B 66 1 xv k (x'.map (Value.int .u32)) ∧ (∀ t ∈ x', Limb t) ∧ Norm x' ∧ wx.ownsRow B 5 1 lv m (((D.map (fun b => (b.toNat : Int))).reverse).map (Value.int .u8)) ∧ AllD D ∧ natV x' * p10 D.length + dv D = V ∧ (k = 0 → D.head? ≠ some 48) ∧ Below B w wx ∧ k ≤ N ∧ m ≤ 10 * N + 1)) (fun _ lv _ => 10 * N + 1 - lenOf lv)
    case atStart => exact ⟨N, 0, x, [], hown.out, xL.out, xN.out, World.ownsRow_nil _ _ _ _, (fun b hb => by cases hb), by rw [xV.out, show dv [] = 0 from rfl, show p10 ([] : List UInt8).length = 1 from rfl]; omega, (fun e => absurd e z), B1.out, Nat.le_refl _, by omega⟩
    case round =>
      obtain ⟨k, m, x', D, HI⟩ := hrel
      clear hown B1 xL xN xV
      obtain ⟨A2, c2, rfl, hs2⟩ := Sl.of_row HI.out.1 HI.out.2.1
      have lx := hs2.len
      have Dm : D.length = m := by have := HI.out.2.2.2.1.1; simpa using this
      have kN := HI.out.2.2.2.2.2.2.2.2.1
      have mN := HI.out.2.2.2.2.2.2.2.2.2
      by_cases k0 : 0 < k
      · obtain ⟨g, hg⟩ : ∃ g, A2 = some ⟨g, 0, none⟩ := by
          rcases HI.out.1.2 with ⟨e, e2⟩ | ⟨g, cap, cur, e, _⟩
          · omega
          · cases e; exact ⟨g, rfl⟩
        subst hg
        have k0' : (0 : Int) < (k : Int) := by omega
        have kb : (k : Int) ≤ 3000 := by omega
        have row0 := Lib.hid HI.out.1
        have st0 := Lib.hid (short_start (by_ := 10) HI.out.2.1 (by decide) (natV_take_all (l := x') (k := k) (by omega)))
        have stp := Lib.hid (fun j o rest s => @short_step x' o 10 rest s j HI.out.2.1 ⟨by decide, by decide⟩)
        have fin := Lib.hid (fun o rest (H : ShortAt x' 10 0 o rest) => short_end H)
        have dx := Lib.hid (digV_limb HI.out.2.1)
        have LXk := Lib.hid lx
        have LR := Lib.hid HI.out.2.2.2.1
        have gne : Hid (u4.ownBlock ≠ some g) := by
          rcases rows_apart HI.out.2.2.2.1 HI.out.1 (by decide) with e | e
          · unfold Hid; rw [e]; simp
          · exact e
        have G9 := Lib.hid (show g < wr.heap.size from ((HI.out.1.lt g rfl).2))
        have gB := Lib.hid (show B ≤ g from ((HI.out.1.lt g rfl).1))
        obtain ⟨OP, hOP⟩ : ∃ OP : World → Prop, OP = fun wx => Only g wr wx := ⟨_, rfl⟩
        have OP0 : Hid (OP wr) := by unfold Hid; rw [hOP]; exact Only.refl _ _
        have OPs : Hid (∀ (wx : World) (o : Nat) (u : Value), OP wx → OP (wx.setCell ⟨g, o, none⟩ u)) := by
          unfold Hid; rw [hOP]; exact fun wx o u h => h.setCell o u
        replace hOP := Lib.hid hOP
        clear hs2
        go_upto_block 2 with fail
        go_cut [5] (fun rv wx => ∃ (r : Int) (o : List Int), rv = .int .u64 r ∧ 0 ≤ r ∧ r ≤ 9 ∧ Hid (wx.ownsRow B 66 1 (.slice (some ⟨g, 0, none⟩) k c2) k (o.map (Value.int .u32)) ∧ (∀ t ∈ o, Limb t) ∧ natV o = natV x' / 10 ∧ r = natV x' % 10 ∧ OP wx))
        case first =>
          go_wp2_with fail
          go_loopw [5, 6] (fun rv iv wx => ∃ (j : Nat) (r : Int) (o : List Int), j ≤ k ∧ iv = .int .i64 ((j : Int) - 1) ∧ rv = .int .u64 r ∧ ShortAt x' 10 j o r ∧ wx.ownsRow B 66 1 (.slice (some ⟨g, 0, none⟩) k c2) k (o.map (Value.int .u32)) ∧ OP wx) (fun _ iv _ => (intOf iv + 1).toNat)
          case atStart => exact ⟨k, 0, x', Nat.le_refl _, rfl, rfl, st0.out, row0.out, OP0.out⟩
          case round =>
            obtain ⟨j, r, o, hj, rfl, rfl, hI, hrow, hO⟩ := hrel
            clear st0 row0
            have r0 := hI.r0
            have r1 := hI.r1
            by_cases j0 : 0 < j
            · obtain ⟨i, rfl⟩ : ∃ i, j = i + 1 := ⟨j - 1, by omega⟩
              have ei : ((i + 1 : Nat) : Int) - 1 = (i : Int) := by omega
              rw [ei]
              have i0 : (0 : Int) ≤ (i : Int) := by omega
              have ik : (i : Int) < (k : Int) := by omega
              have cell := rowc_cell hrow i (by omega)
              have fr : World.frozen? _ ⟨g, i, none⟩ = false := hrow.frozenAt i
              rw [hI.low i (by omega)] at cell
              have S := stp.out i o r (r * 4294967296 + digV x' i) hI (by rw [LXk.out]; omega) rfl
              have stp1 := Lib.hid S.1
              obtain ⟨x0, x1⟩ := dx.out i
              obtain ⟨q0, q1⟩ := S.2.1
              have s0 := S.2.2.1
              have s1 := S.2.2.2
              have Hset := Lib.hid (fun v => rowc_set hrow i v)
              generalize digV x' i = X at *
              obtain ⟨s, hs⟩ : ∃ s, r * 4294967296 + X = s := ⟨_, rfl⟩
              rw [hs] at stp1 q0 q1 s0 s1
              have wr' : IntKind.u64.wrap (r * 4294967296) = r * 4294967296 := by rw [IntKind.wrap_u64]; omega
              have ws : IntKind.u64.wrap (r * 4294967296 + X) = s := by rw [hs, IntKind.wrap_u64]; omega
              have HO := Lib.hid hO
              clear S hI hrow stp fin dx hs hO
              go_wp2
              refine ⟨⟨i, s % 10, _, by omega, rfl, rfl, stp1.out, Hset.out _, OPs.out _ _ _ HO.out⟩, ?_⟩
              simp [intOf]
            · obtain rfl : j = 0 := by omega
              have f := fin.out o r hI
              have LO := hI.lim
              have f1 := Lib.hid (show wr.ownsRow B 66 1 (.slice (some ⟨g, 0, none⟩) k c2) k (o.map (Value.int .u32)) ∧ (∀ t ∈ o, Limb t) ∧ natV o = natV x' / 10 ∧ r = natV x' % 10 ∧ OP wr from ⟨hrow, LO, f.1, f.2, hO⟩)
              clear hI f hrow hO stp fin dx
              go_wp2
              go_meet
              exact ⟨r, o, rfl, r0, by omega, f1⟩
        case rest =>
          obtain ⟨r, o, rfl, r0, r9, HC⟩ := hcut
          have hO : Only g wr wc := by have := HC.out.2.2.2.2; rw [hOP.out] at this; exact this
          have lrow := Lib.hid (row_only LR.out hO gne.out)
          have B4 := Lib.hid (HI.out.2.2.2.2.2.2.2.1.trans (hO.below gB.out))
          have x1 : 1 ≤ natV x' := by
            have := natV_pos HI.out.2.1 HI.out.2.2.1 (fun e => by rw [e] at lx; simp at lx; omega)
            omega
          have DL : D.length ≤ 10 * N := by
            apply p10_limbs
            have := VB.out
            have e := HI.out.2.2.2.2.2.1
            have d0 := (dv_bounds HI.out.2.2.2.2.1).1
            have := Int.mul_le_mul_of_nonneg_right x1 (Int.le_of_lt (p10_pos D.length))
            omega
          obtain ⟨u1, u2, u3⟩ := digU_nat r0 r9
          obtain ⟨b, hb⟩ : ∃ b, digU r = b := ⟨_, rfl⟩
          rw [hb] at u1 u2 u3
          have wb : IntKind.u8.wrap (48 + r) = 48 + r := by rw [IntKind.wrap_u8]; omega
          have w64 : IntKind.u64.wrap (48 + r) = 48 + r := by rw [IntKind.wrap_u64]; omega
          have XR := Lib.hid HC.out.1
          have sz := Lib.hid B4.out.size
          have lx0 := Lib.hid HI.out
          have U1 := Lib.hid u1
          have rowsz : Hid (B ≤ wc.heap.size) := by unfold Hid; have := sz.out; have := HW.out; omega
          clear st0 stp fin dx row0 OP0 OPs hOP LR hb
          go_wp2_with (at_builtin; refine wpList_appB rfl _ _ rfl B _ m ((D.map (fun b => (b.toNat : Int))).reverse) (48 + r) lrow.out rfl rfl (by omega) rowsz.out ?_; intro v1 w5 hown5 hb5 kept5)
          have XR5 := kept5 B 66 k _ _ XR.out (rows_apart XR.out lrow.out (by decide))
          obtain ⟨A5, c5, eA, S5⟩ := Sl.of_row XR5 HC.out.2.1
          cases eA
          have RT := Lib.hid (rtrim_own _ k c2 o w5 S5 (by omega))
          have lr5 := Lib.hid hown5
          have B5 := Lib.hid (B4.out.trans hb5)
          have szB := Lib.hid hb5.size
          have BW := Lib.hid (Nat.le_trans rowsz.out hb5.size)
          clear hown5 hb5 kept5 XR5 S5 XR
          go_wp2_with fail
          refine RT.out.mono ?_
          rintro e w6 ⟨xv6, k6, x6, rfl, hown6, xl6, xn6, ev6, hb6⟩
          have lr6 := row_below' lr5.out hb6 (fun g' hg' => (lr5.out.lt g' hg').2)
          rw [show (48 + r : Int) = (b.toNat : Int) by rw [U1.out], rev_snoc] at lr6
          have xr6 := row_base hown6 BW.out
          have e6 : natV x6 = natV x' / 10 := by rw [ev6]; exact HC.out.2.2.1
          have er := HC.out.2.2.2.1
          have k6N : k6 ≤ N := by
            have l6 : x6.length = k6 := by have := hown6.1; simpa using this
            have := norm_len (k := N) xl6 xn6 (by
              rw [e6]
              have h1 := natV_lt HI.out.2.1
              rw [lx] at h1
              have h2 := pw_mono (a := 32 * (k : Int)) (b := 32 * (N : Int)) (by omega) (by omega)
              have h3 : natV x' / 10 ≤ natV x' := Int.ediv_le_self _ (natV_nonneg HI.out.2.1)
              omega)
            omega
          have fin6 := Lib.hid (show w6.ownsRow B 66 1 xv6 k6 (x6.map (Value.int .u32)) ∧ (∀ t ∈ x6, Limb t) ∧ Norm x6 ∧ w6.ownsRow B 5 1 v1 (m + 1) ((((b :: D).map (fun b => (b.toNat : Int))).reverse).map (Value.int .u8)) ∧ AllD (b :: D) ∧ natV x6 * p10 (b :: D).length + dv (b :: D) = V ∧ (k6 = 0 → (b :: D).head? ≠ some 48) ∧ Below B w w6 ∧ k6 ≤ N ∧ m + 1 ≤ 10 * N + 1 from
            ⟨xr6, xl6, xn6, lr6, (fun y hy => by
              rcases List.mem_cons.1 hy with rfl | hy
              · exact ⟨u2, u3⟩
              · exact HI.out.2.2.2.2.1 y hy), (by
              rw [e6, List.length_cons, p10_succ, dv, U1.out, show (48 + r - 48 : Int) = r by omega]
              exact dig_ten HI.out.2.2.2.2.2.1 er), (fun k60 => by
              subst k60
              have l6 : x6 = [] := List.eq_nil_of_length_eq_zero (by have := hown6.1; simpa using this)
              rw [l6] at e6
              have z6 : natV x' / 10 = 0 := e6.symm
              intro hh
              have hb48 : b = 48 := by simpa using hh
              rw [hb48] at u1
              have : (48 : UInt8).toNat = 48 := by decide
              rw [this] at u1
              omega), B5.out.trans (hb6.mono BW.out), k6N, by omega⟩)
          have lv1 := Lib.hid (own_lenOf lr5.out)
          have lv4 := Lib.hid (own_lenOf lrow.out)
          clear hown6 xl6 xn6 ev6 hb6 lr6 xr6 e6 er RT
          go_wp2
          refine ⟨⟨k6, m + 1, x6, b :: D, fin6.out⟩, ?_⟩
          rw [lv1.out, lv4.out]; omega
      · obtain rfl : k = 0 := by omega
        have xz : natV x' = 0 := by rw [List.eq_nil_of_length_eq_zero lx]; rfl
        have ed := HI.out.2.2.2.2.2.1
        rw [xz, Int.zero_mul, Int.zero_add] at ed
        have CD : Hid (Canon D) := by
          refine ⟨HI.out.2.2.2.2.1, fun e => ?_, .inr (HI.out.2.2.2.2.2.2.1 rfl)⟩
          rw [e] at ed
          have := VP.out
          rw [← ed] at this; exact absurd this (by decide)
        have ED := Lib.hid ed
        have lrow := HI.out.2.2.2.1
        obtain ⟨gl, capl, hl, hlB⟩ : ∃ gl capl, u4 = .slice (some ⟨gl, 0, none⟩) m capl ∧ gl < wr.heap.size := by
          rcases lrow.2 with ⟨e, e2⟩ | ⟨g', cap, cur, e, h2⟩
          · exfalso
            have : D = [] := List.eq_nil_of_length_eq_zero (by omega)
            exact CD.out.ne this
          · exact ⟨g', cap, e, (lrow.lt g' (by rw [e]; rfl)).2⟩
        subst hl
        have m0 : 0 < m := by
          have : D ≠ [] := CD.out.ne
          rcases Nat.eq_zero_or_pos m with c | c
          · exact absurd (List.eq_nil_of_length_eq_zero (Dm.trans c)) this
          · exact c
        have mb : (m : Int) ≤ 30001 := by omega
        have HC : Hid (∀ i : Nat, i < m → wr.cell? ⟨gl, i, none⟩ = some (.int .u8 (digV ((D.map (fun b => (b.toNat : Int))).reverse) i))) := fun i hi => rowc_cell lrow i hi
        have HV : Hid (∀ j : Nat, (hj : j < m) → digV ((D.map (fun b => (b.toNat : Int))).reverse) (m - 1 - j) = ((D[j]'(by omega)).toNat : Int)) := fun j hj => by
          unfold digV
          have e : D.length - 1 - (m - 1 - j) = j := by omega
          rw [List.getElem?_reverse (by simp; omega), List.length_map, e, List.getElem?_map, List.getElem?_eq_getElem (by omega)]
          rfl
        have BW := Lib.hid HI.out.2.2.2.2.2.2.2.1
        have AD := Lib.hid CD.out.all
        have wB : Hid (B ≤ wr.heap.size) := by unfold Hid; have := BW.out.size; have := HW.out; omega
        obtain ⟨W0, hW0⟩ : ∃ W0, wr = W0 := ⟨_, rfl⟩
        rw [hW0] at HC BW wB hlB ⊢
        clear lrow HI ed xz hW0
        go_wp2
        go_loopw [8, 9] (fun ov iv wx => ∃ j : Nat, j ≤ m ∧ iv = .int .i64 ((m : Int) - 1 - (j : Int)) ∧ wx.ownsRow W0.heap.size 5 1 ov j (((D.take j).map (fun b => (b.toNat : Int))).map (Value.int .u8)) ∧ Below W0.heap.size W0 wx) (fun _ iv _ => (intOf iv + 1).toNat)
        case atStart => exact ⟨0, by omega, by simp, World.ownsRow_nil _ _ _ _, Below.refl _ _⟩
        case round =>
          obtain ⟨j, hj, rfl, hrow, hB2⟩ := hrel
          by_cases jm : j < m
          · obtain ⟨i, hi⟩ : ∃ i, m - 1 - j = i := ⟨_, rfl⟩
            have ei : (m : Int) - 1 - (j : Int) = (i : Int) := by omega
            rw [ei]
            have i0 : (0 : Int) ≤ (i : Int) := by omega
            have im : (i : Int) < (m : Int) := by omega
            have cell := HC.out i (by omega)
            have v := HV.out j jm
            rw [hi] at v
            rw [v, ← hB2.cell (p := ⟨gl, i, none⟩) hlB] at cell
            have ad := AD.out _ (List.getElem_mem (show j < D.length by omega))
            obtain ⟨y, hy⟩ : ∃ y : Int, ((D[j]'(by omega)).toNat : Int) = y := ⟨_, rfl⟩
            have y0 : 48 ≤ y := by omega
            have y1 : y ≤ 57 := by omega
            rw [hy] at cell
            have TK : Hid ((D.take j).map (fun b => (b.toNat : Int)) ++ [y] = (D.take (j + 1)).map (fun b => (b.toNat : Int))) := by
              unfold Hid; rw [List.take_succ_eq_append_getElem (by omega), List.map_append, List.map_cons, List.map_nil, hy]
            have hrow := Lib.hid hrow
            have hs2 := Lib.hid hB2.size
            clear v hy ad
            go_wp2_with (at_builtin; refine wpList_appB rfl _ _ rfl W0.heap.size _ j ((D.take j).map (fun b => (b.toNat : Int))) y hrow.out rfl rfl (by omega) hs2.out ?_; intro v1 w5 hown5 hb5 _)
            rw [TK.out] at hown5
            refine ⟨⟨j + 1, by omega, by push_cast; congr 1; omega, hown5, hB2.trans hb5⟩, ?_⟩
            simp [intOf]
          · obtain rfl : j = m := by omega
            have eD : D.take j = D := List.take_of_length_le (by omega)
            rw [eD] at hrow
            obtain ⟨go_, capo, ho⟩ : ∃ gl capl, u8 = .slice (some ⟨gl, 0, none⟩) j capl := by
              rcases hrow.2 with ⟨e, e2⟩ | ⟨g', cap, cur, e, h2⟩
              · omega
              · exact ⟨g', cap, e⟩
            subst ho
            have STR := run_convert_bytes_back (P := Tryd.prog) wr 89 9 5 ⟨go_, 0, none⟩ capo D Tryd.underlying89 Tryd.underlying5 Tryd.underlying9 (fun q hq => by
              rw [Addr.add_lit, Nat.zero_add, rowc_cell hrow q (by omega)]
              unfold digV
              rw [List.getElem?_map, List.getElem?_eq_getElem hq]; rfl)
            rw [Dm] at STR
            have fin : Hid (DigPost V w (.returned (.string ⟨D.toArray⟩)) wr) :=
              ⟨D, rfl, CD.out, ED.out, by rw [HW.out]; exact BW.out.trans (hB2.mono wB.out)⟩
            clear hrow eD
            go_wp2
            go_ret
            exact fin.out
end Go.Proofs.YtmjidpkddiinaaaDoor

/-
  Package nat: grown: walked.
-/
namespace Go.Proofs.YtmjidpkddiinaaaDoor
open Go.RowKit Go.Shelf

theorem bytes_size (s : ByteArray) : s.size = s.data.toList.length := Lib.size_eq s
theorem bytes_get (s : ByteArray) (k : Nat) (h : k < s.size) : s[k]'h = s.data.toList[k]'(by rw [← bytes_size]; exact h) := by
  show s.data[k] = _
  simp
theorem dv_take_succ {l : List UInt8} {k : Nat} (h : k < l.length) : dv (l.take (k + 1)) = 10 * dv (l.take k) + (((l[k]'h).toNat : Int) - 48) := by
  rw [List.take_succ_eq_append_getElem h, dv_snoc]
theorem AllD.take {l : List UInt8} (h : AllD l) (k : Nat) : AllD (l.take k) := fun b hb => h b (List.mem_of_mem_take hb)
theorem AllD.drop {l : List UInt8} (h : AllD l) (k : Nat) : AllD (l.drop k) := fun b hb => h b (List.mem_of_mem_drop hb)
/-- i limbs of a number times S, and C more, in their place. -/
structure GrowAt (l : List Int) (S C : Int) (i : Nat) (o : List Int) (cy : Int) : Prop where
  len : o.length = l.length
  lim : ∀ t ∈ o, Limb t
  rest : ∀ t : Nat, i ≤ t → digV o t = digV l t
  v : natV (o.take i) + cy * pw (32 * (i : Int)) = natV (l.take i) * S + C
  c0 : 0 ≤ cy
  c1 : cy < S
theorem grow_start {l : List Int} {S C : Int} (hl : ∀ t ∈ l, Limb t) (h0 : 0 ≤ C) (h1 : C < S) : GrowAt l S C 0 l C :=
  ⟨rfl, hl, fun _ _ => rfl, by rw [List.take_zero, show natV [] = 0 from rfl, show pw (32 * ((0 : Nat) : Int)) = 1 from rfl]; omega, h0, h1⟩
theorem grow_step {l o : List Int} {S C cy s : Int} {i : Nat} (hl : ∀ t ∈ l, Limb t) (h : GrowAt l S C i o cy) (hi : i < l.length) (hs : s = digV l i * S + cy) :
    GrowAt l S C (i + 1) (o.set i (s % 4294967296)) (s / 4294967296) := by
  obtain ⟨h1, h2, h3, h4, h5, h6⟩ := h
  obtain ⟨a0, a1⟩ := digV_limb hl i
  have m0 : 0 ≤ digV l i * S := Int.mul_nonneg a0 (by omega)
  have m1 : digV l i * S ≤ 4294967295 * S := Int.mul_le_mul_of_nonneg_right (by omega) (by omega)
  refine ⟨by simp [h1], limbs_set h2 _ ⟨by omega, by omega⟩, fun t ht => by rw [digV_set_ne (by omega)]; exact h3 t (by omega), ?_, by omega, by omega⟩
  rw [natV_set_take _ (by omega), natV_take_dig l, pw32s]
  have e : s = 4294967296 * (s / 4294967296) + s % 4294967296 := by omega
  generalize s / 4294967296 = q at *
  generalize s % 4294967296 = r at *
  generalize pw (32 * (i : Int)) = P at *
  have k : P * (digV l i * S + cy) = P * (4294967296 * q + r) := by rw [← hs, ← e]
  rw [Int.mul_add, Int.mul_add, Int.mul_left_comm P 4294967296] at k
  rw [Int.mul_comm cy P] at h4
  rw [Int.add_mul, Int.mul_assoc P, Int.mul_left_comm q, Int.mul_comm q P]
  omega
theorem grow_end {l o : List Int} {S C cy : Int} (h : GrowAt l S C l.length o cy) : natV o + cy * pw (32 * (l.length : Int)) = natV l * S + C := by
  have v := h.v
  rw [natV_take_all (by rw [h.len]; omega), natV_take_all (Nat.le_refl _)] at v
  exact v
theorem wpList_appN {w : World} {ops : Array Oper} {rest : List Oper} {o : Oper} {a : Act} {Q : Exit → Act → World → Prop} (hgd : o.guard = none) (s x : Operand)
    (ho : o.op = .call { callee := .builtin .append, args := #[s, x], argTypes := #[26, 26] })
    (base : Nat) (v : Value) (n : Nat) (l : List Int) (y : Int) (hown : w.ownsRow base 66 1 v n (l.map (Value.int .u32))) (hs : a.eval s = v)
    (hx : a.eval x = .slice (some ⟨w.heap.size, 0, none⟩) 1 1) (hb : n + 1 ≤ 2000000000) (hbase : base ≤ w.heap.size)
    (h : ∀ v' w', w'.ownsRow base 66 1 v' (n + 1) ((l ++ [y]).map (Value.int .u32)) → Below base w w' → wpList Tryd.prog ops Q rest (a.put o.dst v') w') : wpList Tryd.prog ops Q (o :: rest) a (w.alloc (.cells #[.int .u32 y] 66)) := by
  have h1 : Below base w (w.alloc (.cells #[.int .u32 y] 66)) := (Below.refl _ _).alloc hbase _
  obtain ⟨i0, hi, hz0, hz1, hz2⟩ := info_parts Tryd.info71
  refine wpList_append_own _ hgd s x 26 ho base 66 i0 (.int .u32 0) 1 4 Tryd.underlying26 hi hz0 hz1 hz2 rfl (by decide) v n _ hs (hown.alloc _) ⟨w.heap.size, 0, none⟩ 1 1 ([y].map (Value.int .u32)) hx rfl ?_ (u32_oneCell _) (by unfold maxLen; omega) (by omega) (by simp; omega) ?_
  · intro j u hu
    obtain ⟨hj, rfl⟩ := List.getElem?_eq_some_iff.1 hu
    have : j = 0 := by simpa using hj
    subst this
    rw [Addr.add_lit, World.cell?_alloc_at _ _ _ _ rfl]; rfl
  · intro v' w' h3 h2 _
    refine h v' w' (by rw [List.map_append]; exact h3) ?_
    exact h1.trans ((Below.refl _ _).grown h2 (by simp; omega) (fun k hk => (hown.lt k hk).1))
set_option maxRecDepth 100000 in
set_option maxHeartbeats 8000000 in
theorem grown_any (B g n cap : Nat) (l : List Int) (s : ByteArray) (w : World) (h : w.ownsRow B 66 1 (.slice (some ⟨g, 0, none⟩) n cap) n (l.map (Value.int .u32))) (hl : ∀ t ∈ l, Limb t) (hB : B ≤ w.heap.size) (hd : AllD s.data.toList) (hs : s.size ≤ 9) (hn : n ≤ 3000) :
    Calls Tryd.prog 62 #[.slice (some ⟨g, 0, none⟩) n cap, .string s] w fun e w' => ∃ (g' n' cap' : Nat) (l' : List Int), e = .returned (.slice (some ⟨g', 0, none⟩) n' cap') ∧ w'.ownsRow B 66 1 (.slice (some ⟨g', 0, none⟩) n' cap') n' (l'.map (Value.int .u32)) ∧ (∀ t ∈ l', Limb t) ∧ natV l' = natV l * p10 s.size + dv s.data.toList ∧ n' ≤ n + 1 ∧ Below B w w' := by
  have ll : l.length = n := by have := h.1; simpa using this
  have gB : B ≤ g ∧ g < w.heap.size := h.lt g rfl
  have HO := Lib.hid h
  have HLim := Lib.hid hl
  have LL := Lib.hid ll
  have HD := Lib.hid hd
  have GB := Lib.hid gB
  have HB := Lib.hid hB
  have ds := Lib.hid (bytes_size s)
  have bg := Lib.hid (fun k hk => bytes_get s k hk)
  have nb : (n : Int) ≤ 3000 := by omega
  have sb : (s.size : Int) ≤ 9 := by omega
  clear h hl ll hd gB hB
  go_enter Tryd.func62, Tryd.ntmps62
  go_wp2
  go_loopw [5, 6, 15] (fun sv cv ii wx => ∃ (k : Nat) (S C : Int), ii = .int .i64 (k : Int) ∧ sv = .int .u32 S ∧ cv = .int .u32 C ∧ k ≤ s.size ∧ Hid (S = p10 k) ∧ Hid (C = dv (s.data.toList.take k)) ∧ ∃ q, w.drewN q = wx) (fun _ _ ii _ => s.size - (intOf ii).toNat)
  case atStart => exact ⟨0, 1, 0, rfl, rfl, rfl, by omega, rfl, rfl, 0, rfl⟩
  case round =>
    obtain ⟨k, S, C, rfl, rfl, rfl, hk, hS, hC, q, rfl⟩ := hrel
    have S0 : 0 ≤ S := by rw [hS.out]; exact Int.le_of_lt (p10_pos k)
    have C0 := (dv_bounds (HD.out.take k)).1
    have C1 := (dv_bounds (HD.out.take k)).2
    rw [← hC.out] at C0 C1
    have tl : (s.data.toList.take k).length = k := by rw [List.length_take, ← ds.out]; omega
    rw [tl, ← hS.out] at C1
    by_cases hlt : k < s.size
    · have klt : (k : Int) < (s.size : Int) := by omega
      have k0 : (0 : Int) ≤ (k : Int) := by omega
      have S1 : S ≤ 100000000 := by
        rw [hS.out]
        have := p10_mono (show k ≤ 8 by omega)
        exact this
      have b1 := bg.out k hlt
      have ad := HD.out _ (List.getElem_mem (show k < s.data.toList.length by rw [← ds.out]; exact hlt))
      have nx : Hid (C * 10 + (((s.data.toList[k]'(by rw [← ds.out]; exact hlt)).toNat : Int) - 48) = dv (s.data.toList.take (k + 1))) := by
        unfold Hid; rw [dv_take_succ (by rw [← ds.out]; exact hlt), hC.out]; omega
      have ns : Hid (S * 10 = p10 (k + 1)) := by unfold Hid; rw [p10_succ, hS.out]; omega
      obtain ⟨y, hy⟩ : ∃ y : Int, ((s.data.toList[k]'(by rw [← ds.out]; exact hlt)).toNat : Int) = y := ⟨_, rfl⟩
      have y0 : 48 ≤ y := by omega
      have y1 : y ≤ 57 := by omega
      rw [hy] at nx
      have bs : ((s[k]'hlt).toNat : Int) = y := by rw [b1]; exact hy
      have w1 : IntKind.u32.wrap (S * 10) = S * 10 := by rw [IntKind.wrap_u32]; omega
      have w2 : IntKind.u32.wrap (C * 10) = C * 10 := by rw [IntKind.wrap_u32]; omega
      have w3 : IntKind.u32.wrap (C * 10 + (y - 48)) = C * 10 + (y - 48) := by rw [IntKind.wrap_u32]; omega
      clear hS hC ad b1 hy tl
      go_wp2
      go_roundw
      case rel => exact ⟨k + 1, _, _, by go_num, rfl, rfl, by omega, ns, nx, q, rfl⟩
      case measure => simp [intOf]; omega
    · obtain ⟨m, hm⟩ : ∃ m, s.size = m := ⟨_, rfl⟩
      have ek : k = m := by omega
      subst ek
      have eT : s.data.toList.take k = s.data.toList := List.take_of_length_le (by rw [← ds.out]; omega)
      rw [eT] at hC
      have S1 : S ≤ 1000000000 := by
        rw [hS.out]
        have := p10_mono (show k ≤ 9 by omega)
        exact this
      have hge : (s.size : Int) ≤ (k : Int) := by omega
      have st0 := Lib.hid (grow_start HLim.out C0 C1)
      have stp := Lib.hid (fun i o cy v => @grow_step l o S C cy v i HLim.out)
      have dl := Lib.hid (digV_limb HLim.out)
      have SL := Lib.hid (show Limb S from ⟨S0, by omega⟩)
      have SZ := Lib.hid hm
      clear eT tl hm
      have MU := Lib.hid (fun X hX W => mul32_any X S hX SL.out W)
      have AU := Lib.hid (fun X cy hX hY W => add32_any X cy 0 hX hY (by decide) (by decide) W)
      go_wp2
      go_loopw [6, 31] (fun cv ii wx => ∃ (i : Nat) (cy : Int) (o : List Int), ii = .int .i64 (i : Int) ∧ cv = .int .u32 cy ∧ i ≤ n ∧ wx.ownsRow B 66 1 (.slice (some ⟨g, 0, none⟩) n cap) n (o.map (Value.int .u32)) ∧ GrowAt l S C i o cy ∧ Below B w wx) (fun _ ii _ => n - (intOf ii).toNat)
      case atStart => exact ⟨0, C, l, rfl, rfl, by omega, HO.out, st0.out, below_drewN (Below.refl _ _) _⟩
      case round =>
        obtain ⟨i, cy, o, rfl, rfl, hi, hrow, hI, hB2⟩ := hrel
        clear st0 HO
        have c0 := hI.c0
        have c1 := hI.c1
        by_cases iln : i < n
        · have ilt : (i : Int) < (n : Int) := by omega
          have i0 : (0 : Int) ≤ (i : Int) := by omega
          have cell := rowc_cell hrow i iln
          rw [hI.rest i (Nat.le_refl _)] at cell
          have fr : World.frozen? _ ⟨g, i, none⟩ = false := hrow.frozenAt i
          have Hset := Lib.hid (fun v => rowc_set hrow i v)
          obtain ⟨s', hs'⟩ : ∃ s', digV l i * S + cy = s' := ⟨_, rfl⟩
          have stp1 := Lib.hid (stp.out i o cy s' hI (by rw [LL.out]; exact iln) hs'.symm)
          obtain ⟨x0, x1⟩ := dl.out i
          obtain ⟨p0, p1⟩ := mul_limb (dl.out i) SL.out
          have MU1 := Lib.hid (fun W => MU.out (digV l i) (dl.out i) W)
          obtain ⟨p, hp⟩ : ∃ p, digV l i * S = p := ⟨_, rfl⟩
          rw [hp] at MU1 p0 p1 hs'
          obtain ⟨hi', hhi⟩ : ∃ hi', p / 4294967296 = hi' := ⟨_, rfl⟩
          obtain ⟨lo, hlo⟩ : ∃ lo, p % 4294967296 = lo := ⟨_, rfl⟩
          rw [hhi, hlo] at MU1
          have AU1 := Lib.hid (fun W => AU.out lo cy ⟨by omega, by omega⟩ ⟨c0, by omega⟩ W)
          rw [show lo + cy + 0 = lo + cy by omega] at AU1
          obtain ⟨sm, hsm⟩ : ∃ sm, (lo + cy) % 4294967296 = sm := ⟨_, rfl⟩
          obtain ⟨ov, hov⟩ : ∃ ov, (lo + cy) / 4294967296 = ov := ⟨_, rfl⟩
          rw [hsm, hov] at AU1
          have e1 : s' % 4294967296 = sm := by omega
          have e2 : s' / 4294967296 = hi' + ov := by omega
          have wq : IntKind.u32.wrap (hi' + ov) = hi' + ov := by rw [IntKind.wrap_u32]; omega
          rw [e1, e2] at stp1
          generalize digV l i = X at *
          have hB2 := Lib.hid hB2
          have gb := Lib.hid GB.out.1
          clear hI hrow dl MU AU stp hp hhi hlo hsm hov e1 e2 hs'
          go_wp2_with fail
          refine (MU1.out _).mono ?_
          rintro e w' ⟨rfl, rfl⟩
          go_wp2_with fail
          refine (AU1.out _).mono ?_
          rintro e w' ⟨rfl, rfl⟩
          go_wp2
          refine ⟨⟨i + 1, hi' + ov, _, by go_num, rfl, by omega, Hset.out _, stp1.out, hB2.out.setCell gb.out _⟩, ?_⟩
          simp [intOf]; omega
        · obtain rfl : i = n := by omega
          have f := grow_end (by rw [LL.out]; exact hI)
          rw [LL.out, hS.out, hC.out] at f
          have olim := hI.lim
          have cyl : Limb cy := ⟨c0, by omega⟩
          have ol : o.length = i := by rw [hI.len, LL.out]
          have hge2 : ¬ (i : Int) < (i : Int) := by omega
          have kS := Lib.hid SZ.out
          have F := Lib.hid f
          have OL := Lib.hid olim
          have CY := Lib.hid cyl
          have OLn := Lib.hid ol
          have HR := Lib.hid hrow
          have HB3 := Lib.hid hB2
          have bsz : Hid (B ≤ wr.heap.size) := Nat.le_trans HB.out hB2.size
          clear hI hrow f olim stp dl MU AU cyl ol
          by_cases cz : cy = 0
          · subst cz
            go_wp2
            go_ret
            exact ⟨g, i, cap, rfl, o, HR.out, OL.out, by have := F.out; rw [kS.out]; omega, by omega, HB3.out⟩
          · have czb : (cy != 0) = true := by simpa using cz
            go_wp2_with (at_builtin; refine wpList_appN rfl _ _ rfl B _ i o cy HR.out rfl rfl (by omega) bsz.out ?_; intro v1 w5 hown5 hb5)
            obtain ⟨g', cap', hv⟩ : ∃ g' cap', v1 = .slice (some ⟨g', 0, none⟩) (i + 1) cap' := by
              rcases hown5.2 with ⟨e, e2⟩ | ⟨g', cap', cur, e, _⟩
              · omega
              · exact ⟨g', cap', e⟩
            subst hv
            have N5 : Hid (natV (o ++ [cy]) = natV l * p10 s.size + dv s.data.toList) := by
              unfold Hid; rw [natV_snoc, OLn.out, kS.out]; have := F.out; rw [Int.mul_comm cy] at this; exact this
            go_ret
            exact ⟨g', i + 1, cap', rfl, o ++ [cy], hown5, limbs_snoc OL.out CY.out, N5.out, by omega, HB3.out.trans hb5⟩
end Go.Proofs.YtmjidpkddiinaaaDoor

/-
  Package nat: Parse: walked.
-/
namespace Go.Proofs.YtmjidpkddiinaaaDoor
open Go.RowKit Go.Shelf

theorem bytes_empty (s : ByteArray) : s.toList.isEmpty = s.data.toList.isEmpty := by
  rw [Lib.toList_data]
theorem bytes_empty2 {s : ByteArray} (h : s.data.toList ≠ []) : s.toList.isEmpty = false := by
  rw [bytes_empty]; simpa using h
set_option maxRecDepth 100000 in
set_option maxHeartbeats 4000000 in
theorem nparse_bad (s : ByteArray) (w : World) (hs : s.size ≤ 100000) (hd : ¬ (s.data.toList ≠ [] ∧ AllD s.data.toList)) :
    Calls Tryd.prog 37 #[.string s] w (NatRPost 3 0 w) := by
  have fin := Lib.hid (NatRPost.nil (er := 3) (Below.refl w.heap.size w))
  by_cases he : s.data.toList = []
  · have e1 : s.toList.isEmpty = true := by rw [bytes_empty, he]; rfl
    clear hd he
    go_enter Tryd.func37, Tryd.ntmps37
    go_wp2
    go_ret2
    exact fin.out
  · have e1 := bytes_empty2 he
    have hda : Hid (¬ AllD s.data.toList) := fun z => hd ⟨he, z⟩
    have ds := Lib.hid (bytes_size s)
    have bg := Lib.hid (fun k hk => bytes_get s k hk)
    have sb : (s.size : Int) ≤ 100000 := by omega
    clear hd he
    go_enter Tryd.func37, Tryd.ntmps37
    go_wp2
    go_loopw [12] (fun ii wx => ∃ k : Nat, ii = .int .i64 (k : Int) ∧ k ≤ s.size ∧ Hid (AllD (s.data.toList.take k)) ∧ w = wx) (fun ii _ => s.size - (intOf ii).toNat)
    case atStart => exact ⟨0, rfl, by omega, (fun b hb => by simp at hb), rfl⟩
    case round =>
      obtain ⟨k, rfl, hk, hA, rfl⟩ := hrel
      by_cases hlt : k < s.size
      · have klt : (k : Int) < (s.size : Int) := by omega
        have k0 : (0 : Int) ≤ (k : Int) := by omega
        have b1 := bg.out k hlt
        have hl : k < s.data.toList.length := by rw [← ds.out]; exact hlt
        obtain ⟨y, hy⟩ : ∃ y : Int, ((s.data.toList[k]'hl).toNat : Int) = y := ⟨_, rfl⟩
        have bs : ((s[k]'hlt).toNat : Int) = y := by rw [b1]; exact hy
        have nx : Hid (48 ≤ y → y ≤ 57 → AllD (s.data.toList.take (k + 1))) := fun y0 y1 => by
          rw [List.take_succ_eq_append_getElem hl]
          exact hA.out.app (fun b hb => by rw [List.mem_singleton.1 hb]; omega)
        clear b1 hy
        by_cases y0 : y < 48
        · clear nx
          go_wp2
          go_ret2
          exact fin.out
        · have y0' : 48 ≤ y := by omega
          by_cases y1 : 57 < y
          · clear nx
            go_wp2
            go_ret2
            exact fin.out
          · have nx2 := Lib.hid (nx.out (by omega) (by omega))
            clear nx
            go_wp2
            go_roundw
            case rel => exact ⟨k + 1, by go_num, by omega, nx2, by first | trivial | rfl⟩
            case measure => simp [intOf]; omega
      · exfalso
        apply hda.out
        have := hA.out
        rw [List.take_of_length_le (by rw [← ds.out]; omega)] at this
        exact this
theorem wpList_mk0 {w : World} {ops : Array Oper} {rest : List Oper} {o : Oper} {a : Act} {Q : Exit → Act → World → Prop} (hgd : o.guard = none) (s x : Operand) (ho : o.op = Op.makeSlice 26 s x)
    (base : Nat) (C : Int) (n : Nat) (hs : a.eval s = .int .i64 0) (hx : a.eval x = .int .i64 C) (hC : C = (n : Int)) (hn : n ≤ 2000000000) (hbase : base ≤ w.heap.size)
    (h : ∀ w', w'.ownsRow base 66 1 (.slice (some ⟨w.heap.size, 0, none⟩) 0 n) 0 (([] : List Int).map (Value.int .u32)) → Below base w w' → wpList Tryd.prog ops Q rest (a.put o.dst (.slice (some ⟨w.heap.size, 0, none⟩) 0 n)) w') :
    wpList Tryd.prog ops Q (o :: rest) a w := by
  obtain ⟨i0, hi, hz0, hz1, hz2⟩ := info_parts Tryd.info71
  exact wpList_make_own w hgd s x 26 ho base 66 i0 (.int .u32 0) 1 Tryd.underlying26 hi hz0 hz1 .i64 .i64 C n hs hx hC (by rw [hz2]; omega) (by unfold maxLen; omega) hbase fun w' h1 h2 => h w' h1 ((Below.refl _ _).grown h2 hbase (fun k hk => by cases hk))
theorem dv_len_big {l : List UInt8} (h : AllD l) (h1 : l.head? ≠ some 48) (h2 : 2467 < l.length) : pw 8192 ≤ dv l := by
  match l, h, h1, h2 with
  | [], _, _, h2 => simp at h2
  | b :: r, h, h1, h2 =>
    have g := canon_ge h (fun e => h1 (by rw [e]; rfl))
    rw [List.length_cons] at h2
    exact Int.le_trans p10_big (Int.le_trans (p10_mono (by omega)) g)
set_option maxRecDepth 100000 in
set_option maxHeartbeats 8000000 in
theorem nparse_ok (s : ByteArray) (w : World) (hs : s.size ≤ 100000) (hd : s.data.toList ≠ [] ∧ AllD s.data.toList) :
    Calls Tryd.prog 37 #[.string s] w (NatRPost (overE (dv s.data.toList)) (overV (dv s.data.toList)) w) := by
  have e1 := bytes_empty2 hd.1
  obtain ⟨E0, V0, hE⟩ : ∃ E V, overE (dv s.data.toList) = E ∧ overV (dv s.data.toList) = V := ⟨_, _, rfl, rfl⟩
  rw [hE.1, hE.2]
  replace hE := Lib.hid hE
  have ds := Lib.hid (bytes_size s)
  have bg := Lib.hid (fun k hk => bytes_get s k hk)
  have sb : (s.size : Int) ≤ 100000 := by omega
  have HA := Lib.hid hd.2
  have TL := Lib.hid (fun W => Tryd.strings_TrimLeft_one s 48 (by decide) W)
  obtain ⟨t, ht⟩ : ∃ t, Lib.trimLeftB s.data.toList 48 = t := ⟨_, rfl⟩
  have tA := Lib.hid (show AllD t by rw [← ht]; exact trim_all hd.2)
  have tV := Lib.hid (show dv t = dv s.data.toList by rw [← ht]; exact trim_dv _)
  have tH := Lib.hid (show t.head? ≠ some 48 by rw [← ht]; exact trim_head _)
  have tL : t.length ≤ 100000 := by rw [← ht]; have := trim_len s.data.toList; have := ds.out; omega
  rw [ht] at TL
  clear hd ht
  go_enter Tryd.func37, Tryd.ntmps37
  go_wp2
  go_loopw [12] (fun ii wx => ∃ k : Nat, ii = .int .i64 (k : Int) ∧ k ≤ s.size ∧ w = wx) (fun ii _ => s.size - (intOf ii).toNat)
  case atStart => exact ⟨0, rfl, by omega, rfl⟩
  case round =>
    obtain ⟨k, rfl, hk, rfl⟩ := hrel
    by_cases hlt : k < s.size
    · have klt : (k : Int) < (s.size : Int) := by omega
      have k0 : (0 : Int) ≤ (k : Int) := by omega
      have b1 := bg.out k hlt
      have hl : k < s.data.toList.length := by rw [← ds.out]; exact hlt
      have ad := HA.out _ (List.getElem_mem hl)
      obtain ⟨y, hy⟩ : ∃ y : Int, ((s.data.toList[k]'hl).toNat : Int) = y := ⟨_, rfl⟩
      have y0 : 48 ≤ y := by omega
      have y1 : y ≤ 57 := by omega
      have bs : ((s[k]'hlt).toNat : Int) = y := by rw [b1]; exact hy
      have n0 : ¬ y < 48 := by omega
      have n1 : ¬ 57 < y := by omega
      clear b1 hy ad
      go_wp2
      go_roundw
      case rel => exact ⟨k + 1, by go_num, by omega, by first | trivial | rfl⟩
      case measure => simp [intOf]; omega
    · have hge : ¬ (k : Int) < (s.size : Int) := by omega
      have st := Lib.size_mk t
      go_wp2_with fail
      refine (TL.out _).mono ?_
      rintro e W1 ⟨rfl, rfl⟩
      by_cases big : 2467 < t.length
      · have bigI : (2467 : Int) < (t.length : Int) := by omega
        have fin : Hid (NatRPost E0 V0 W1 (.returned (.tuple #[.slice none 0 0, .int .i64 2])) W1) := by
          have := dv_len_big tA.out tH.out big
          rw [tV.out] at this
          unfold Hid; rw [← hE.out.1, ← hE.out.2, (over_no this).1, (over_no this).2]
          exact NatRPost.nil (Below.refl _ _)
        obtain ⟨T, hT⟩ : ∃ T : ByteArray, (⟨t.toArray⟩ : ByteArray) = T := ⟨_, rfl⟩
        rw [hT] at st ⊢
        go_wp2
        go_ret2
        exact fin.out
      · have nb : ¬ (2467 : Int) < (t.length : Int) := by omega
        have tb : (t.length : Int) ≤ 2467 := by omega
        obtain ⟨C, hC⟩ : ∃ C : Nat, t.length / 9 + 1 = C := ⟨_, rfl⟩
        have EC := Lib.hid (show (t.length : Int) / 9 + 1 = (C : Int) by omega)
        have Cb : C ≤ 300 := by omega
        obtain ⟨T, hT⟩ : ∃ T : ByteArray, (⟨t.toArray⟩ : ByteArray) = T := ⟨_, rfl⟩
        have TD := Lib.hid (show T.data.toList = t by rw [← hT])
        rw [hT] at st ⊢
        clear hT
        go_wp2_with (at_make; go_loud (refine wpList_mk0 rfl _ _ rfl W1.heap.size _ C rfl rfl EC.out (by omega) (Nat.le_refl _) ?_); intro w2 hown2 hb2)
        go_loopw [5, 6] (fun dv_ rv wx => ∃ (k g n cap : Nat) (T' : ByteArray) (l : List Int), dv_ = .string T' ∧ rv = .slice (some ⟨g, 0, none⟩) n cap ∧ Hid (T'.data.toList = t.drop k ∧ k ≤ t.length ∧ n ≤ k ∧ wx.ownsRow W1.heap.size 66 1 (.slice (some ⟨g, 0, none⟩) n cap) n (l.map (Value.int .u32)) ∧ (∀ y ∈ l, Limb y) ∧ natV l = dv (t.take k) ∧ Below W1.heap.size W1 wx)) (fun dv_ _ _ => Lib.strSize dv_)
        case atStart => exact ⟨0, _, 0, _, T, [], rfl, rfl, by rw [TD.out, List.drop_zero], by omega, by omega, hown2, (fun y hy => by cases hy), rfl, hb2⟩
        case round =>
          obtain ⟨k', g, n, cap, T', l, rfl, rfl, HI⟩ := hrel
          clear hown2 hb2
          obtain ⟨hT, hk', hnk, hrow, hlim, hv, hB2⟩ := HI.out
          have tsz : T'.size = t.length - k' := by rw [bytes_size, hT, List.length_drop]
          by_cases h0 : k' < t.length
          · obtain ⟨L, hL⟩ : ∃ L, t.length - k' = L := ⟨_, rfl⟩
            rw [hL] at tsz
            obtain ⟨c, hc⟩ : ∃ c, min L 9 = c := ⟨_, rfl⟩
            have c9 : c ≤ 9 := by omega
            have c1 : 1 ≤ c := by omega
            have cL : c ≤ L := by omega
            have hm : min (L : Int) 9 = (c : Int) := by omega
            have eT : T' = ⟨(t.drop k').toArray⟩ := by rw [← hT, Lib.mk_data]
            have x1 : (T'.extract 0 c).data.toList = (t.drop k').take c := by rw [eT, Lib.extract_mk]; simp
            have x2 : (T'.extract c L).data.toList = t.drop (k' + c) := by
              rw [eT, Lib.extract_mk]
              show (((t.drop k').drop c).take (L - c)) = _
              rw [List.drop_drop, List.take_of_length_le (by rw [List.length_drop]; omega)]
            have z1 : (T'.extract 0 c).size = c := by rw [bytes_size, x1, List.length_take, List.length_drop]; omega
            have z2 : (T'.extract c L).size = L - c := by rw [bytes_size, x2, List.length_drop]; omega
            have GR := Lib.hid (grown_any W1.heap.size g n cap l (T'.extract 0 c) wr hrow hlim hB2.size (by rw [x1]; exact (tA.out.drop k').take c) (by omega) (by omega))
            rw [x1, z1] at GR
            have nxv : Hid (natV l * p10 c + dv ((t.drop k').take c) = dv (t.take (k' + c))) := by
              unfold Hid
              rw [hv, List.take_add, dv_append, List.length_take, List.length_drop, Nat.min_eq_left (by omega)]
            have kc := Lib.hid (show k' + c ≤ t.length by omega)
            have X2 := Lib.hid x2
            have Z2 := Lib.hid z2
            have cI : (1 : Int) ≤ (c : Int) := by omega
            have cLI : (c : Int) ≤ (L : Int) := by omega
            have L0 : 0 < L := by omega
            have L0I : (0 : Int) < (L : Int) := by omega
            have Lb : (L : Int) ≤ 2467 := by omega
            have HB2 := Lib.hid hB2
            have TS := Lib.hid tsz
            clear HI hT hrow hlim hv hB2 x1 x2 z1 z2 eT hc hL
            go_wp2_with fail
            refine GR.out.mono ?_
            rintro e w5 ⟨g', n', cap', l', rfl, hr5, hl5, hv5, hn5, hb5⟩
            rw [nxv.out] at hv5
            have fin := Lib.hid (show (T'.extract c L).data.toList = t.drop (k' + c) ∧ k' + c ≤ t.length ∧ n' ≤ k' + c ∧ w5.ownsRow W1.heap.size 66 1 (.slice (some ⟨g', 0, none⟩) n' cap') n' (l'.map (Value.int .u32)) ∧ (∀ y ∈ l', Limb y) ∧ natV l' = dv (t.take (k' + c)) ∧ Below W1.heap.size W1 w5 from ⟨X2.out, kc.out, by omega, hr5, hl5, hv5, HB2.out.trans hb5⟩)
            clear hr5 hl5 hv5 hb5 GR
            go_wp2
            refine ⟨⟨k' + c, g', n', cap', T'.extract c L, l', rfl, rfl, fin.out⟩, ?_⟩
            rw [Lib.strSize_string, Lib.strSize_string, Z2.out, TS.out]; omega
          · obtain rfl : k' = t.length := by omega
            rw [List.take_of_length_le (Nat.le_refl _), tV.out] at hv
            obtain ⟨A2, c2, eA, S2⟩ := Sl.of_row hrow hlim
            cases eA
            have tz : T'.size = 0 := by omega
            have BD := Lib.hid (bounded_sl _ n cap l wr S2 (by omega))
            have gW := Lib.hid ((hrow.lt g rfl).1)
            have S2 := Lib.hid S2
            have HB2 := Lib.hid hB2
            have hv := Lib.hid hv
            clear HI hT hrow hlim hB2 tsz
            go_wp2_with fail
            refine BD.out.mono ?_
            rintro e w5 ⟨hb5, hy, hn3⟩
            rcases Int.lt_or_le (natV l) (pw 8192) with ov | ov
            · obtain ⟨k2, h1, h2, h3, rfl⟩ := hy ov
              have fin : Hid (NatRPost E0 V0 W1 (.returned (.tuple #[.slice (some ⟨g, 0, none⟩) k2 cap, .int .i64 0])) w5) := by
                have e := over_ok ov
                rw [hv.out] at e
                unfold Hid; rw [← hE.out.1, ← hE.out.2, e.1, e.2]
                exact NatRPost.mk ((S2.out.take h1).on hb5) h2 (by rw [h3, hv.out]) (fun ad e => by cases e; exact gW.out) (HB2.out.trans (hb5.mono HB2.out.size))
              clear h2 h3 hb5 ov hy hn3
              go_wp2
              go_ret2
              exact fin.out
            · obtain rfl := hn3 ov
              have fin : Hid (NatRPost E0 V0 W1 (.returned (.tuple #[.slice none 0 0, .int .i64 2])) w5) := by
                have e := over_no ov
                rw [hv.out] at e
                unfold Hid; rw [← hE.out.1, ← hE.out.2, e.1, e.2]
                exact NatRPost.nil (HB2.out.trans (hb5.mono HB2.out.size))
              clear hb5 ov hy hn3
              go_wp2
              go_ret2
              exact fin.out
end Go.Proofs.YtmjidpkddiinaaaDoor

/-
  The document's naturals: Parse: walked.
-/
namespace Go.Proofs.YtmjidpkddiinaaaDoor
open Go.RowKit Go.Shelf

theorem Sl.drew {w : World} {A : Option Addr} {n c : Nat} {l : List Int} (h : Sl w w.heap.size A n c l) : Sl w.drew w.drew.heap.size A n c l := h.keep fun _ _ _ => rfl
theorem lit_slX (w : World) (v y : Int) (g : Nat) (hg : g = w.heap.size) (hv : v = y) (hy : Limb y) : Sl (w.alloc (.cells #[.int .u32 v] 66)) (w.alloc (.cells #[.int .u32 v] 66)).heap.size (some ⟨g, 0, none⟩) 1 1 [y] := by
  subst hg; subst hv; exact lit_sl w v hy
theorem below_al {w X : World} (h : Below w.heap.size w X) (o : Obj) : Below w.heap.size w (X.alloc o) := h.alloc h.size o
theorem via2 {w X x : World} {A : Option Addr} (h1 : Below w.heap.size w X) (h2 : Below X.heap.size X x) (f : Fresh X.heap.size A) : Below w.heap.size w x ∧ Fresh w.heap.size A := ⟨h1.trans (h2.mono h1.size), f.mono h1.size⟩
theorem dv_take_le {l : List UInt8} (h : AllD l) (k : Nat) : dv (l.take k) ≤ dv l := by
  conv => rhs; rw [← List.take_append_drop k l, dv_append]
  have h1 := (dv_bounds (h.take k)).1
  have h2 := (dv_bounds (h.drop k)).1
  have := Int.mul_le_mul_of_nonneg_left (show 1 ≤ p10 (l.drop k).length by have := p10_pos (l.drop k).length; omega) h1
  omega
set_option maxRecDepth 100000 in
set_option maxHeartbeats 4000000 in
theorem rparse_bad (s : ByteArray) (w : World) (hs : s.size ≤ 100000) (hd : ¬ (s.data.toList ≠ [] ∧ AllD s.data.toList)) :
    Calls Tryd.prog 38 #[.string s] w (NatRPost 3 0 w) := by
  have fin := Lib.hid (NatRPost.nil (er := 3) (Below.refl w.heap.size w))
  by_cases he : s.data.toList = []
  · have e1 : s.toList.isEmpty = true := by rw [bytes_empty, he]; rfl
    clear hd he
    go_enter Tryd.func38, Tryd.ntmps38
    go_wp2
    go_ret2
    exact fin.out
  · have e1 := bytes_empty2 he
    have hda : Hid (¬ AllD s.data.toList) := fun z => hd ⟨he, z⟩
    have ds := Lib.hid (bytes_size s)
    have bg := Lib.hid (fun k hk => bytes_get s k hk)
    have sb : (s.size : Int) ≤ 100000 := by omega
    clear hd he
    go_enter Tryd.func38, Tryd.ntmps38
    go_wp2
    go_loopw [4] (fun ii wx => ∃ k : Nat, ii = .int .i64 (k : Int) ∧ k ≤ s.size ∧ Hid (AllD (s.data.toList.take k)) ∧ w = wx) (fun ii _ => s.size - (intOf ii).toNat)
    case atStart => exact ⟨0, rfl, by omega, (fun b hb => by simp at hb), rfl⟩
    case round =>
      obtain ⟨k, rfl, hk, hA, rfl⟩ := hrel
      by_cases hlt : k < s.size
      · have klt : (k : Int) < (s.size : Int) := by omega
        have k0 : (0 : Int) ≤ (k : Int) := by omega
        have b1 := bg.out k hlt
        have hl : k < s.data.toList.length := by rw [← ds.out]; exact hlt
        obtain ⟨y, hy⟩ : ∃ y : Int, ((s.data.toList[k]'hl).toNat : Int) = y := ⟨_, rfl⟩
        have bs : ((s[k]'hlt).toNat : Int) = y := by rw [b1]; exact hy
        have nx : Hid (48 ≤ y → y ≤ 57 → AllD (s.data.toList.take (k + 1))) := fun y0 y1 => by
          rw [List.take_succ_eq_append_getElem hl]
          exact hA.out.app (fun b hb => by rw [List.mem_singleton.1 hb]; omega)
        clear b1 hy
        by_cases y0 : y < 48
        · clear nx
          go_wp2
          go_ret2
          exact fin.out
        · have y0' : 48 ≤ y := by omega
          by_cases y1 : 57 < y
          · clear nx
            go_wp2
            go_ret2
            exact fin.out
          · have nx2 := Lib.hid (nx.out (by omega) (by omega))
            clear nx
            go_wp2
            go_roundw
            case rel => exact ⟨k + 1, by go_num, by omega, nx2, by first | trivial | rfl⟩
            case measure => simp [intOf]; omega
      · exfalso
        apply hda.out
        have := hA.out
        rw [List.take_of_length_le (by rw [← ds.out]; omega)] at this
        exact this
set_option maxRecDepth 100000 in
set_option maxHeartbeats 8000000 in
theorem rparse_ok (s : ByteArray) (w : World) (hs : s.size ≤ 100000) (hd : s.data.toList ≠ [] ∧ AllD s.data.toList) :
    Calls Tryd.prog 38 #[.string s] w (NatRPost (overE (dv s.data.toList)) (overV (dv s.data.toList)) w) := by
  have e1 := bytes_empty2 hd.1
  obtain ⟨E0, V0, hE⟩ : ∃ E V, overE (dv s.data.toList) = E ∧ overV (dv s.data.toList) = V := ⟨_, _, rfl, rfl⟩
  rw [hE.1, hE.2]
  replace hE := Lib.hid hE
  have ds := Lib.hid (bytes_size s)
  have bg := Lib.hid (fun k hk => bytes_get s k hk)
  have sb : (s.size : Int) ≤ 100000 := by omega
  have HA := Lib.hid hd.2
  clear hd
  go_enter Tryd.func38, Tryd.ntmps38
  go_wp2
  go_loopw [4] (fun ii wx => ∃ k : Nat, ii = .int .i64 (k : Int) ∧ k ≤ s.size ∧ w = wx) (fun ii _ => s.size - (intOf ii).toNat)
  case atStart => exact ⟨0, rfl, by omega, rfl⟩
  case round =>
    obtain ⟨k, rfl, hk, rfl⟩ := hrel
    by_cases hlt : k < s.size
    · have klt : (k : Int) < (s.size : Int) := by omega
      have k0 : (0 : Int) ≤ (k : Int) := by omega
      have b1 := bg.out k hlt
      have hl : k < s.data.toList.length := by rw [← ds.out]; exact hlt
      have ad := HA.out _ (List.getElem_mem hl)
      obtain ⟨y, hy⟩ : ∃ y : Int, ((s.data.toList[k]'hl).toNat : Int) = y := ⟨_, rfl⟩
      have y0 : 48 ≤ y := by omega
      have y1 : y ≤ 57 := by omega
      have bs : ((s[k]'hlt).toNat : Int) = y := by rw [b1]; exact hy
      have n0 : ¬ y < 48 := by omega
      have n1 : ¬ 57 < y := by omega
      clear b1 hy ad
      go_wp2
      go_roundw
      case rel => exact ⟨k + 1, by go_num, by omega, by first | trivial | rfl⟩
      case measure => simp [intOf]; omega
    · have hge : ¬ (k : Int) < (s.size : Int) := by omega
      obtain ⟨W1, hW1⟩ : ∃ W1, w = W1 := ⟨_, rfl⟩
      subst hW1
      go_wp2
      go_loopw [5, 6] (fun xv iv wx => ∃ (i : Nat) (A : Option Addr) (m c : Nat) (l : List Int), iv = .int .i64 (i : Int) ∧ xv = .slice A m c ∧ i ≤ s.size ∧ m ≤ 256 ∧ Hid (Sl wx wx.heap.size A m c l ∧ Norm l ∧ natV l = dv (s.data.toList.take i) ∧ natV l < pw 8192 ∧ Fresh w.heap.size A ∧ Below w.heap.size w wx)) (fun _ iv _ => s.size - (intOf iv).toNat)
      case atStart => exact ⟨0, none, 0, 0, [], rfl, rfl, by omega, by omega, Sl.nil_ _ _, norm_nil, rfl, pw_pos _, (fun _ e => by cases e), Below.refl _ _⟩
      case round =>
        obtain ⟨i, A, m, c, l, rfl, rfl, hi, mb, HI⟩ := hrel
        by_cases hlt2 : i < s.size
        · have ilt : (i : Int) < (s.size : Int) := by omega
          have i0 : (0 : Int) ≤ (i : Int) := by omega
          have b1 := bg.out i hlt2
          have hl : i < s.data.toList.length := by rw [← ds.out]; exact hlt2
          have ad := HA.out _ (List.getElem_mem hl)
          have dvs := dv_take_succ hl
          obtain ⟨y, hy⟩ : ∃ y : Int, ((s.data.toList[i]'hl).toNat : Int) = y := ⟨_, rfl⟩
          have y0 : 48 ≤ y := by omega
          have y1 : y ≤ 57 := by omega
          have bs : ((s[i]'hlt2).toNat : Int) = y := by rw [b1]; exact hy
          rw [hy] at dvs
          have DVS := Lib.hid dvs
          have SX := HI.out.1
          have XP := Lib.hid HI.out.2.2.2.1
          have XV := Lib.hid HI.out.2.2.1
          have HB := Lib.hid HI.out.2.2.2.2.2
          have LT := Lib.hid (show Limb 10 from ⟨by decide, by decide⟩)
          have LY := Lib.hid (show Limb (y - 48) from ⟨by omega, by omega⟩)
          have WV : Hid (IntKind.u32.wrap (IntKind.u8.wrap (y - 48)) = y - 48) := by unfold Hid; rw [IntKind.wrap_u8, IntKind.wrap_u32]; omega
          have N5 : Hid (∀ z : List Int, (∀ x ∈ z, Limb x) → Norm z → natV z = natV l * natV [10] → z.length ≤ 512) := fun z z1 z2 z3 => by
            refine norm_len (k := 512) z1 z2 ?_
            rw [z3, natV_one]
            have e : pw (32 * ((512 : Nat) : Int)) = pw 8192 * pw 8192 := by rw [← pw_add _ _ (by decide) (by decide)]; rfl
            rw [e]
            have h0 := XP.out
            have h9 : (16 : Int) ≤ pw 8192 := by have := pw_mono (a := 4) (b := 8192) (by decide) (by decide); exact this
            generalize pw 8192 = P at *
            exact Int.lt_of_le_of_lt (Int.mul_le_mul_of_nonneg_right (Int.le_of_lt h0) (by omega)) (Int.mul_lt_mul_of_pos_left (by omega) (by omega))
          have SX := Lib.hid SX
          clear b1 hy ad dvs HI
          go_wp2_with fail
          go_region_with ((first
            | (go_at_call 52; refine (rtimes_any A _ m 1 c 1 l [10] _ (by repeat' first | exact SX.out | refine Sl.drew ?_ | refine Sl.alloc ?_ _) (by repeat' first | exact lit_slX _ _ 10 _ (by simp [go_sem]) rfl LT.out | refine Sl.drew ?_ | refine Sl.alloc ?_ _) (by omega) (by omega)).mono ?_; rintro e x1 ⟨A4, n4, c4, l4, rfl, h1, h2, h3, h4, hx1⟩; have n4b := N5.out l4 h1.lim h2 h3; rw [h1.len] at n4b; have h3 := Lib.hid h3; have h4 := Lib.hid h4)
            | (go_at_call 49; refine (rplus_any A4 _ n4 1 c4 1 l4 [y - 48] _ (by repeat' first | exact h1 | refine Sl.drew ?_ | refine Sl.alloc ?_ _) (by repeat' first | exact lit_slX _ _ (y - 48) _ (by simp [go_sem]) WV.out LY.out | refine Sl.on ?_ hx1 | refine Sl.drew ?_ | refine Sl.alloc ?_ _) (by omega) (by omega)).mono ?_; rintro e x2 ⟨A5, n5, c5, l5, rfl, g1, g2, g3, g4, hx2⟩; have g3 := Lib.hid g3)))
          all_goals
            obtain ⟨b1, f1⟩ := via2 (w := wr) (by repeat' first | exact Below.refl _ _ | refine below_al ?_ _ | refine Below.drew ?_) hx1 h4.out
            obtain ⟨b2, f2⟩ := via2 (w := wr) (by repeat' first | exact b1 | refine below_al ?_ _ | refine Below.drew ?_) hx2 g4
            have v5 : natV l5 = dv (s.data.toList.take (i + 1)) := by
              rw [g3.out, h3.out, natV_one, natV_one, DVS.out, XV.out]; omega
            have B5 := Lib.hid (HB.out.trans (b2.mono HB.out.size))
            have F5 := Lib.hid (show Fresh w.heap.size A5 from f2.mono HB.out.size)
            have n5b := norm_len (k := 1024) g1.lim g2 (by
              rw [g3.out, natV_one]
              have q1 := natV_lt h1.lim
              rw [h1.len] at q1
              have q2 := pw_mono (a := 32 * (n4 : Int)) (b := 32 * ((512 : Nat) : Int)) (by omega) (by omega)
              have q3 : pw (32 * ((1024 : Nat) : Int)) = pw (32 * ((512 : Nat) : Int)) * pw (32 * ((512 : Nat) : Int)) := by rw [← pw_add _ _ (by decide) (by decide)]; rfl
              have q4 := pw_mono (a := 16) (b := 32 * ((512 : Nat) : Int)) (by decide) (by decide)
              rw [show pw 16 = 65536 from rfl] at q4
              rw [q3]
              generalize pw (32 * ((512 : Nat) : Int)) = P at *
              have q5 := Int.mul_le_mul_of_nonneg_right q4 (show 0 ≤ P by omega)
              have y2 := LY.out.2
              omega)
            rw [g1.len] at n5b
            clear g3 h3 g4 h4 b1 f1 b2 f2 hx1 hx2 h1 h2
            by_cases ov : dv (s.data.toList.take (i + 1)) < pw 8192
            · have BG := Lib.hid (rbig_lt A5 n5 c5 l5 x2 g1 (by omega) (by rw [v5]; exact ov))
              have n5c := norm_len (k := 256) g1.lim g2 (by rw [v5]; exact ov)
              rw [g1.len] at n5c
              have S5 := Lib.hid (show Sl x2 x2.heap.size A5 n5 c5 l5 ∧ Norm l5 ∧ natV l5 = dv (s.data.toList.take (i + 1)) ∧ natV l5 < pw 8192 from ⟨g1, g2, v5, by rw [v5]; exact ov⟩)
              clear g1 g2 v5 ov
              go_wp2_with fail
              refine BG.out.mono ?_
              rintro e w6 ⟨rfl, hb6⟩
              have S6 := Lib.hid (show Sl w6 w6.heap.size A5 n5 c5 l5 ∧ Norm l5 ∧ natV l5 = dv (s.data.toList.take (i + 1)) ∧ natV l5 < pw 8192 ∧ Fresh w.heap.size A5 ∧ Below w.heap.size w w6 from ⟨S5.out.1.on hb6, S5.out.2.1, S5.out.2.2.1, S5.out.2.2.2, F5.out, B5.out.trans (hb6.mono B5.out.size)⟩)
              clear S5 hb6 BG
              go_wp2
              go_roundw
              case rel => exact ⟨i + 1, A5, n5, c5, l5, by go_num, rfl, by omega, by omega, S6.out⟩
              case measure => simp [intOf]; omega
            · have BG := Lib.hid (rbig_ge A5 n5 c5 l5 x2 g1 (by omega) (by rw [v5]; omega))
              have e1 : E0 = 2 ∧ V0 = 0 := by
                have := dv_take_le HA.out (i + 1)
                have k := over_no (v := dv s.data.toList) (by generalize pw 8192 = P at *; omega)
                exact ⟨by rw [← hE.out.1, k.1], by rw [← hE.out.2, k.2]⟩
              clear g1 g2 v5 ov
              go_wp2_with fail
              refine BG.out.mono ?_
              rintro e w6 ⟨rfl, hb6⟩
              have fin : Hid (NatRPost E0 V0 w (.returned (.tuple #[.slice none 0 0, .int .i64 2])) w6) := by
                unfold Hid; rw [e1.1, e1.2]
                exact NatRPost.nil (B5.out.trans (hb6.mono B5.out.size))
              clear hb6 BG
              go_wp2
              go_ret2
              exact fin.out
        · have en : i = s.size := by omega
          have eT : s.data.toList.take i = s.data.toList := List.take_of_length_le (by rw [← ds.out]; omega)
          have v := HI.out.2.2.1
          rw [eT] at v
          have k := over_ok (v := dv s.data.toList) (by rw [← v]; exact HI.out.2.2.2.1)
          have fin : Hid (NatRPost E0 V0 w (.returned (.tuple #[.slice A m c, .int .i64 0])) wr) := by
            unfold Hid; rw [← hE.out.1, ← hE.out.2, k.1, k.2]
            exact NatRPost.mk HI.out.1 HI.out.2.1 v HI.out.2.2.2.2.1 HI.out.2.2.2.2.2
          have hge2 : ¬ (i : Int) < (s.size : Int) := by omega
          clear k v eT
          go_wp2
          go_ret2
          exact fin.out
end Go.Proofs.YtmjidpkddiinaaaDoor

