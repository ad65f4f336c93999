/-
  The document's naturals (tabardref1): slices of limbs; Trim, limb, Bit.
-/
import Derived.Test.YtomeidbigofnaaaL0
import Derived.Test.YtomeidbigofnaaaF3
import Derived.Laws.OwnMore
import Derived.Laws.AppendOwnNone
import Derived.OwnWalk
import Derived.Deep.AppendLies
import Derived.Deep.DeepCutAuto
import Derived.Deep.CutBlock
import Derived.LoopTactic
namespace Go.Proofs.Ytomeidbigofnaaa
open Go.RowKit Go.Shelf

theorem Try.info71 : (Try.prog.info? 62).map (fun i => (i.zero, i.size, i.bytes)) = some (some (.int .u32 0), 1, 4) := by kernel_rfl

/-- A slice's value is the list of limbs; its cells lie below block B. -/
structure Sl (w : World) (B : Nat) (A : Option Addr) (n c : Nat) (l : List Int) : Prop where
  len : l.length = n
  cap : n ≤ c
  max : c ≤ maxLen
  lim : ∀ x ∈ l, Limb x
  nil : A = none → n = 0 ∧ c = 0
  rd : n = 0 ∨ ∃ b o, A = some ⟨b, o, none⟩ ∧ b < B ∧ ∀ i : Nat, (h : i < l.length) → w.cell? ⟨b, o + i, none⟩ = some (.int .u32 l[i])
theorem Sl.keep {w w' : World} {B : Nat} {A : Option Addr} {n c : Nat} {l : List Int} (h : Sl w B A n c l) (hk : ∀ b o, b < B → w'.cell? ⟨b, o, none⟩ = w.cell? ⟨b, o, none⟩) : Sl w' B A n c l :=
  ⟨h.len, h.cap, h.max, h.lim, h.nil, by
    rcases h.rd with h0 | ⟨b, o, hA, hb, hc⟩
    · exact .inl h0
    · exact .inr ⟨b, o, hA, hb, fun i hi => by rw [hk _ _ hb]; exact hc i hi⟩⟩
theorem Sl.below {w w' : World} {B : Nat} {A : Option Addr} {n c : Nat} {l : List Int} (h : Sl w B A n c l) (hb : Below B w w') : Sl w' B A n c l := h.keep fun b o hlt => hb.cell (p := ⟨b, o, none⟩) hlt
theorem Sl.more {w : World} {B B' : Nat} {A : Option Addr} {n c : Nat} {l : List Int} (h : Sl w B A n c l) (hB : B ≤ B') : Sl w B' A n c l :=
  ⟨h.len, h.cap, h.max, h.lim, h.nil, by
    rcases h.rd with h0 | ⟨b, o, hA, hb, hc⟩
    · exact .inl h0
    · exact .inr ⟨b, o, hA, by omega, hc⟩⟩
/-- The same slice in a later world, over that world's own heap. -/
theorem Sl.on {w w' : World} {A : Option Addr} {n c : Nat} {l : List Int} (h : Sl w w.heap.size A n c l) (hb : Below w.heap.size w w') : Sl w' w'.heap.size A n c l := (h.below hb).more hb.size
theorem Sl.nil_ (w : World) (B : Nat) : Sl w B none 0 0 [] := ⟨rfl, by omega, by simp [maxLen], by simp, fun _ => ⟨rfl, rfl⟩, .inl rfl⟩
/-- The slice lies in a block from B on. -/
def Fresh (B : Nat) (A : Option Addr) : Prop := ∀ ad, A = some ad → B ≤ ad.block
theorem Fresh.mono {B B' : Nat} {A : Option Addr} (h : Fresh B A) (hB : B' ≤ B) : Fresh B' A := fun ad e => Nat.le_trans hB (h ad e)
/-- A row of the call's own is such a slice. -/
theorem Sl.of_own {w : World} {base : Nat} {v : Value} {n : Nat} {l : List Int} (h : w.ownsRow base 62 1 v n (l.map (Value.int .u32))) (hl : ∀ x ∈ l, Limb x) :
    ∃ A c, v = .slice A n c ∧ Sl w w.heap.size A n c l ∧ Fresh base A := by
  have hn : l.length = n := by have := h.1; simpa using this
  rcases h.2 with ⟨rfl, rfl⟩ | ⟨g, cap, cur, rfl, hb, hh, h1, h2, h3, h4⟩
  · obtain rfl : l = [] := List.eq_nil_of_length_eq_zero hn
    exact ⟨none, 0, rfl, Sl.nil_ _ _, fun _ e => by cases e⟩
  · refine ⟨some ⟨g, 0, none⟩, cap, rfl, ⟨hn, h1, h2, hl, (fun e => by cases e), .inr ⟨g, 0, rfl, ?_, fun i hi => ?_⟩⟩, fun ad e => by cases e; exact hb⟩
    · rcases Nat.lt_or_ge g w.heap.size with hlt | hge
      · exact hlt
      · rw [Array.getElem?_eq_none hge] at hh; cases hh
    · have := h.cellAt i (by omega)
      rw [Nat.zero_add, this]
      simp [hi]

/-- What a function answers that makes the natural v: a right list of its limbs, in new memory. -/
def NatPost (v : Int) (w : World) (e : Ending) (w' : World) : Prop :=
  ∃ A n c l, e = .returned (.slice A n c) ∧ Sl w' w'.heap.size A n c l ∧ Norm l ∧ natV l = v ∧ Fresh w.heap.size A ∧ Below w.heap.size w w'

theorem u32_oneCell (l : List Int) : ∀ u ∈ l.map (Value.int .u32), u.oneCell' = true := fun u hu => by
  obtain ⟨x, _, rfl⟩ := List.mem_map.1 hu
  rfl

/-- The document's append of limbs onto a row of the call's own: what it leaves. -/
theorem wpList_app {w : World} {ops : Array Oper} {rest : List Oper} {o : Oper} {a : Act} {Q : Exit → Act → World → Prop} (hgd : o.guard = none) (s x : Operand)
    (ho : o.op = .call { callee := .builtin .append, args := #[s, x], argTypes := #[45, 45] })
    (base : Nat) (v : Value) (n : Nat) (l : List Int) (hown : w.ownsRow base 62 1 v n (l.map (Value.int .u32))) (hs : a.eval s = v)
    (ad : Addr) (m c : Nat) (news : List Int) (hx : a.eval x = .slice (some ad) m c) (hl : news.length = m) (hnews : ∀ i : Nat, (h : i < news.length) → w.cell? (ad.add i) = some (.int .u32 news[i]))
    (hb : n + m ≤ 2000000000) (hbase : base ≤ w.heap.size)
    (h : ∀ v' w', w'.ownsRow base 62 1 v' (n + m) ((l ++ news).map (Value.int .u32)) → Below base w w' → wpList Try.prog ops Q rest (a.put o.dst v') w') : wpList Try.prog ops Q (o :: rest) a w := by
  obtain ⟨i0, hi, hz0, hz1, hz2⟩ := info_parts Try.info71
  refine wpList_append_own _ hgd s x 45 ho base 62 i0 (.int .u32 0) 1 4 Try.underlying45 hi hz0 hz1 hz2 rfl (by decide) v n _ hs hown ad m c (news.map (Value.int .u32)) hx (by simpa using hl) ?_ (u32_oneCell _) (by unfold maxLen; omega) (by omega) hbase ?_
  · intro j u hu
    obtain ⟨hj, rfl⟩ := List.getElem?_eq_some_iff.1 hu
    simp at hj
    rw [hnews j hj]; simp
  · intro v' w' h1 h2 _
    refine h v' w' (by rw [List.map_append]; exact h1) ?_
    exact (Below.refl _ _).grown h2 hbase (fun k hk => (hown.lt k hk).1)
/-- One limb more, of a literal of one. -/
theorem wpList_app1 {w : World} {ops : Array Oper} {rest : List Oper} {o : Oper} {a : Act} {Q : Exit → Act → World → Prop} (hgd : o.guard = none) (s x : Operand)
    (ho : o.op = .call { callee := .builtin .append, args := #[s, x], argTypes := #[45, 45] })
    (base : Nat) (v : Value) (n : Nat) (l : List Int) (y : Int) (hown : w.ownsRow base 62 1 v n (l.map (Value.int .u32))) (hs : a.eval s = v)
    (hx : a.eval x = .slice (some ⟨w.heap.size, 0, none⟩) 1 1) (hb : n + 1 ≤ 2000000000) (hbase : base ≤ w.heap.size)
    (h : ∀ v' w', w'.ownsRow base 62 1 v' (n + 1) ((l ++ [y]).map (Value.int .u32)) → Below base w w' → wpList Try.prog ops Q rest (a.put o.dst v') w') : wpList Try.prog ops Q (o :: rest) a (w.alloc (.cells #[.int .u32 y] 62)) := by
  have h1 : Below base w (w.alloc (.cells #[.int .u32 y] 62)) := (Below.refl _ _).alloc hbase _
  refine wpList_app hgd s x ho base v n l (hown.alloc _) hs _ 1 1 [y] hx rfl ?_ hb (by simp; omega) fun v' w' h2 h3 => h v' w' h2 (h1.trans h3)
  intro i hi
  have : i = 0 := by simpa using hi
  subst this
  rw [Addr.add_lit, World.cell?_alloc_at _ _ _ _ rfl]; rfl

/-- What lies behind the call's own append of the first k limbs. -/
theorem trim_end {w w1 : World} {l : List Int} {k : Nat} {v : Value} (hl : ∀ x ∈ l, Limb x) (hk : k ≤ l.length) (hz : ∀ i : Nat, k ≤ i → (hi : i < l.length) → l[i] = 0) (hx : k = 0 ∨ ∃ j : Nat, ∃ hj : j < l.length, k = j + 1 ∧ l[j] ≠ 0)
    (hown : w1.ownsRow w.heap.size 62 1 v (0 + k) (([] ++ l.take k).map (Value.int .u32))) (hb : Below w.heap.size w w1) : NatPost (natV l) w (.returned v) w1 := by
  rw [Nat.zero_add, List.nil_append] at hown
  obtain ⟨A, c, rfl, hs, fr⟩ := Sl.of_own hown (limbs_take hl k)
  exact ⟨A, k, c, l.take k, rfl, hs, norm_take hk hx, natV_core hz, fr, hb⟩
theorem empty_own (w : World) : (w.alloc (.cells #[] 62)).ownsRow w.heap.size 62 1 (.slice (some ⟨w.heap.size, 0, none⟩) 0 0) 0 (([] : List Int).map (Value.int .u32)) :=
  World.ownsRow_lit w #[] 0 (Nat.le_refl _) (by simp [maxLen]) rfl

set_option maxHeartbeats 1000000 in
theorem rtrim_any (A : Option Addr) (n c : Nat) (l : List Int) (w : World) (h : Sl w w.heap.size A n c l) (hn : n ≤ 1000000000) :
    Calls Try.prog 64 #[.slice A n c] w (NatPost (natV l) w) := by
  obtain ⟨hlen, hcap, hmax, hlim, hnil, hrd⟩ := h
  have HL := Lib.hid hlim
  unfold maxLen at hmax
  have HE := Lib.hid (fun (k : Nat) (v : Value) (w1 : World) hk hz hx => @trim_end w w1 l k v hlim hk hz hx)
  have b1 : Below w.heap.size w (w.alloc (.cells #[] 62)) := (Below.refl _ _).alloc (Nat.le_refl _) _
  have B1 := Lib.hid b1; clear b1 hlim
  rcases hrd with h0 | ⟨b, o, rfl, hb, hc⟩
  · subst h0
    have fin := Lib.hid (fun (v : Value) (w1 : World) => HE.out 0 v w1 (by omega) (fun i _ hi => by omega) (.inl rfl))
    have fin2 := Lib.hid (show NatPost (natV l) w (.returned (.slice (some ⟨w.heap.size, 0, none⟩) 0 0)) (w.alloc (.cells #[] 62)) from fin.out _ _ (empty_own w) B1.out)
    clear hlen HE fin
    rcases A with _ | ad
    · obtain ⟨_, rfl⟩ := hnil rfl
      clear hnil
      go_enter Try.func64, Try.ntmps64
      go_wp2
      refine wp_loop_rounds 1 ?_
      rw [rounds_succ]
      go_wp2
      go_ret
      exact fin2.out
    · clear hnil
      have hk0 : (0 : Int) ≤ (c : Int) := by omega
      go_enter Try.func64, Try.ntmps64
      go_wp2
      refine wp_loop_rounds 1 ?_
      rw [rounds_succ]
      go_wp2
      go_ret
      exact fin2.out
  · have HC := Lib.hid hc
    subst hlen
    clear hc hnil
    go_enter Try.func64, Try.ntmps64
    go_wp2
    go_loopw [3] (fun n wr => ∃ k : Nat, k ≤ l.length ∧ n = .int .i64 (k : Int) ∧ Hid (∀ i : Nat, k ≤ i → (hi : i < l.length) → l[i] = 0) ∧ w = wr) (fun n _ => (intOf n).toNat)
    case atStart => exact ⟨l.length, Nat.le_refl _, rfl, fun i h1 h2 => by omega, rfl⟩
    case round =>
      obtain ⟨k, hk, rfl, hz, rfl⟩ := hrel
      have hkc : (k : Int) ≤ (c : Int) := by omega
      cases k with
      | zero =>
        have hk0 : (0 : Int) ≤ (c : Int) := by omega
        have fin := Lib.hid (fun (v : Value) (w1 : World) => HE.out 0 v w1 (by omega) hz.out (.inl rfl))
        clear HC hz hkc hk HE
        go_wp2
        go_ret
        exact fin.out _ _ (empty_own w) B1.out
      | succ j =>
        have hj : j < l.length := by omega
        have cell : w.cell? ⟨b, o + j, none⟩ = some (.int .u32 l[j]) := HC.out j hj
        have jl : (j : Int) < (l.length : Int) := by omega
        have hj0 : (0 : Int) < (j : Int) + 1 := by omega
        have ej : ((j + 1 : Nat) : Int) = (j : Int) + 1 := by omega
        have hkc2 : (j : Int) + 1 ≤ (c : Int) := by omega
        by_cases hx : l[j] = 0
        · have hz2 : Hid (∀ i : Nat, j ≤ i → (hi : i < l.length) → l[i] = 0) := fun i h1 h2 => by
            rcases Nat.eq_or_lt_of_le h1 with e | e
            · subst e; exact hx
            · exact hz.out i (by omega) h2
          rw [hx] at cell
          clear hx HC hz HE
          go_wp2
          go_roundw
          case rel => exact ⟨j, by omega, by go_num, hz2, by first | trivial | rfl⟩
          case measure => simp [intOf]
        · have fin := Lib.hid (fun (v : Value) (w1 : World) => HE.out (j + 1) v w1 (by omega) hz.out (.inr ⟨j, hj, rfl, hx⟩))
          have hxb : (l[j] == 0) = false := by simpa using hx
          have HN : Hid (∀ i : Nat, (h : i < (l.take (j + 1)).length) → (w.alloc (.cells #[] 62)).cell? ((⟨b, o, none⟩ : Addr).add i) = some (.int .u32 (l.take (j + 1))[i])) := fun i hi => by
            rw [Addr.add_lit, B1.out.cell (p := ⟨b, o + i, none⟩) hb]
            simp at hi
            rw [HC.out i (by omega)]; simp
          have HM := Lib.hid (show (l.take (j + 1)).length = j + 1 by simp; omega)
          generalize l[j] = x at *
          clear HC hz HE
          go_wp2_with (at_builtin; refine wpList_app rfl _ _ rfl w.heap.size _ 0 [] (empty_own w) rfl ⟨b, o, none⟩ (j + 1) c (l.take (j + 1)) rfl HM.out HN.out (by omega) (by simp) ?_; intro v1 w1 hown hb1)
          go_ret
          exact fin.out _ _ hown (B1.out.trans hb1)

set_option maxHeartbeats 400000 in
theorem limb_any (A : Option Addr) (n c : Nat) (l : List Int) (k : Nat) (w : World) (h : Sl w w.heap.size A n c l) (hk : (k : Int) ≤ 9223372036854775807) :
    Calls Try.prog 69 #[.slice A n c, .int .i64 (k : Int)] w fun e w' => e = .returned (.int .u64 (digV l k)) ∧ w = w' := by
  obtain ⟨hlen, hcap, hmax, hlim, hnil, hrd⟩ := h
  unfold maxLen at hmax
  by_cases c1 : k < n
  · rcases hrd with h0 | ⟨b, o, rfl, hb, hc⟩
    · omega
    · have cell : w.cell? ⟨b, o + k, none⟩ = some (.int .u32 l[k]) := hc k (by omega)
      have e := digV_lt (l := l) (i := k) (by omega)
      obtain ⟨x0, x1⟩ := digV_limb hlim k
      rw [← e] at cell
      generalize digV l k = x at *
      have hlt : (k : Int) < (n : Int) := by omega
      clear hc hnil hlim hlen e
      go_enter Try.func69, Try.ntmps69
      go_wp2
      go_ret
      exact ⟨rfl, rfl⟩
  · have e := digV_ge (l := l) (i := k) (by omega)
    have hlt : (n : Int) ≤ (k : Int) := by omega
    rw [e]
    clear e hnil hrd hlim hlen
    go_enter Try.func69, Try.ntmps69
    go_wp2
    go_ret
    exact ⟨rfl, rfl⟩
theorem limb_at (A : Option Addr) (n c : Nat) (l : List Int) (k d : Int) (w : World) (h : Sl w w.heap.size A n c l) (h0 : 0 ≤ k) (hk : k ≤ 9223372036854775807) (hd : digV l k.toNat = d) :
    Calls Try.prog 69 #[.slice A n c, .int .i64 k] w fun e w' => e = .returned (.int .u64 d) ∧ w = w' := by
  obtain ⟨k, rfl⟩ := Int.eq_ofNat_of_zero_le h0
  subst hd
  exact limb_any A n c l k w h hk

/-- The k-th bit of a number. -/
def bitV (v k : Int) : Bool := decide (v / pw k % 2 = 1)
theorem bit_dig {l : List Int} (hl : ∀ x ∈ l, Limb x) (k : Int) (h0 : 0 ≤ k) : bitV (natV l) k = (digV l (k / 32).toNat / pw (k % 32) % 2 == 1) := by
  have e : pw k = pw (32 * ((k / 32).toNat : Int)) * pw (k % 32) := by rw [← pw_add _ _ (by omega) (by omega)]; congr 1; omega
  have d := natV_dig hl (k / 32).toNat
  have hp := pw_pos (32 * ((k / 32).toNat : Int))
  have hj := pw_pos (k % 32)
  have e2 : (4294967296 : Int) = pw (k % 32) * (2 * pw (31 - k % 32)) := by
    have a := pw_add (k % 32) (31 - k % 32) (by omega) (by omega)
    rw [show k % 32 + (31 - k % 32) = 31 by omega, show pw 31 = 2147483648 from rfl] at a
    rw [Int.mul_left_comm, ← a]; rfl
  unfold bitV
  rw [e, ← Int.ediv_ediv_of_nonneg (Int.le_of_lt hp)]
  generalize natV l / pw (32 * ((k / 32).toNat : Int)) = q at *
  rw [← d]
  generalize pw (k % 32) = p at *
  generalize pw (31 - k % 32) = t at *
  have : q / p % 2 = q % 4294967296 / p % 2 := by
    have a := Int.mul_ediv_add_emod q 4294967296
    generalize q / 4294967296 = u at *
    generalize q % 4294967296 = r at *
    subst a
    rw [e2, show p * (2 * t) * u + r = r + p * (2 * (t * u)) by rw [Int.mul_assoc, Int.mul_assoc 2 t u]; omega, Int.add_mul_ediv_left _ _ (by omega)]
    omega
  rw [this]
  by_cases c : q % 4294967296 / p % 2 = 1 <;> simp [c]
set_option maxHeartbeats 400000 in
theorem bit_any (A : Option Addr) (n c : Nat) (l : List Int) (k : Int) (w : World) (h : Sl w w.heap.size A n c l) (h0 : 0 ≤ k) (hk : k ≤ 9223372036854775807) :
    Calls Try.prog 58 #[.slice A n c, .int .i64 k] w fun e w' => e = .returned (.bool (bitV (natV l) k)) ∧ w = w' := by
  obtain ⟨d, hd⟩ : ∃ d, digV l (k / 32).toNat = d := ⟨_, rfl⟩
  have HC := Lib.hid (limb_at A n c l (k / 32) d w h (by omega) (by omega) hd)
  have hw : Limb d := by rw [← hd]; exact digV_limb h.lim _
  have hb := bit_dig h.lim k h0
  rw [hd] at hb
  have hx : d / 2 ^ (k % 32).toNat = d / pw (k % 32) := by rw [pw_eq]
  have hx0 : 0 ≤ d / pw (k % 32) := Int.ediv_nonneg hw.1 (Int.le_of_lt (pw_pos _))
  generalize d / pw (k % 32) = x at *
  obtain ⟨d0, d1⟩ := hw
  have m0 : 0 ≤ k % 32 := by omega
  have HB := Lib.hid hb
  clear hb hd h
  go_enter Try.func58, Try.ntmps58
  go_wp2_with fail
  refine HC.out.mono ?_
  rintro e w' ⟨rfl, rfl⟩
  go_wp2
  go_ret
  exact ⟨by rw [HB.out]; rfl, rfl⟩
end Go.Proofs.Ytomeidbigofnaaa
