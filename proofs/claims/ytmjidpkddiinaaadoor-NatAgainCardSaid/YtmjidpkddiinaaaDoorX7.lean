import Derived.Test.YtmjidpkddiinaaaDoorX6
import Derived.Test.YtmjidpkddiinaaaDoorX5
/-
  Chapter 1's statements: same, equal: walked; the examples of the chapter's head.
-/
namespace Go.Proofs.YtmjidpkddiinaaaDoor
open Go.RowKit Go.Shelf

instance (x : Int) : Decidable (Limb x) := inferInstanceAs (Decidable (0 ≤ x ∧ x < 4294967296))
set_option maxHeartbeats 2000000 in
theorem same_any (A B : Option Addr) (n m c d : Nat) (l : List Int) (w : World) (h : Sl w w.heap.size A n c l) (h' : Sl w w.heap.size B m d l) (hn : n ≤ 100000) :
    Calls Tryd.prog 12 #[.slice A n c, .slice B m d] w fun e w' => e = .returned (.bool true) ∧ Below w.heap.size w w' := by
  have e1 := h.len
  have e2 := h'.len
  obtain rfl : n = m := by omega
  have HC : Hid (∀ i : Nat, i < n → ∃ b o b' o', A = some ⟨b, o, none⟩ ∧ B = some ⟨b', o', none⟩ ∧ w.cell? ⟨b, o + i, none⟩ = some (.int .u32 (digV l i)) ∧ w.cell? ⟨b', o' + i, none⟩ = some (.int .u32 (digV l i))) := fun i hi => by
    rcases h.rd with h0 | ⟨b, o, rfl, _, hc⟩
    · omega
    rcases h'.rd with h0 | ⟨b', o', rfl, _, hc'⟩
    · omega
    exact ⟨b, o, b', o', rfl, rfl, by rw [hc i (by omega), digV_lt], by rw [hc' i (by omega), digV_lt]⟩
  have nb : (n : Int) ≤ 100000 := by omega
  clear h h' e1 e2
  go_enter Tryd.func12, Tryd.ntmps12
  go_wp2
  go_loopw [5] (fun ii wx => ∃ i : Nat, ii = .int .i64 (i : Int) ∧ i ≤ n ∧ ∃ q, w.drewN q = wx) (fun ii _ => n - (intOf ii).toNat)
  case atStart => exact ⟨0, rfl, by omega, 0, rfl⟩
  case round =>
    obtain ⟨i, rfl, hi, q, rfl⟩ := hrel
    by_cases hlt : i < n
    · have ilt : (i : Int) < (n : Int) := by omega
      have i0 : (0 : Int) ≤ (i : Int) := by omega
      obtain ⟨b, o, b', o', rfl, rfl, c1, c2⟩ := HC.out i hlt
      generalize digV l i = X at *
      have t0 : (X == X) = true := beq_self_eq_true X
      have t1 : (X != X) = false := by simp
      clear HC
      go_wp2
      go_quiet (fail)
      go_wp2
      go_roundw
      case rel => exact ⟨i + 1, by go_num, by omega, _, rfl⟩
      case measure => simp [intOf]; omega
    · have hge : ¬ (i : Int) < (n : Int) := by omega
      clear HC
      go_wp2
      go_ret
      exact ⟨rfl, below_drewN (Below.refl _ _) _⟩
theorem equal_any (A B : Option Addr) (n m c d : Nat) (l k : List Int) (w : World) (h : Sl w w.heap.size A n c l) (h' : Sl w w.heap.size B m d k) (hn : n ≤ 30000) (e : l = k) :
    Calls Tryd.prog 41 #[.slice A n c, .slice B m d] w fun e w' => e = .returned (.bool true) ∧ Below w.heap.size w w' := by
  subst e
  have e1 := h.len
  have e2 := h'.len
  obtain rfl : n = m := by omega
  have CM := Lib.hid (ncmp_any A B n n c d l l w h h' hn hn)
  rw [show cmpI (natV l) (natV l) = 0 by unfold cmpI; rw [if_neg (by omega), if_pos rfl]] at CM
  have t0 : ((n : Int) == (n : Int)) = true := beq_self_eq_true _
  clear h h' e1 e2
  go_enter Tryd.func41, Tryd.ntmps41
  go_wp2_with fail
  refine CM.out.mono ?_
  rintro e w1 ⟨rfl, hb⟩
  go_wp2
  go_ret
  exact ⟨rfl, hb⟩

theorem norm_last {l : List Int} {x : Int} (h : l.getLast? = some x) (hx : x ≠ 0) : Norm l := fun j hj e => by
  have : l[j] = x := by
    rw [List.getLast?_eq_getElem?] at h
    rw [show l.length - 1 = j by omega, List.getElem?_eq_getElem hj] at h
    exact Option.some.inj h
  rw [this]; exact hx
/-- A literal of limbs. -/
theorem lit_slN (w : World) (cs : Array Value) (l : List Int) (n g : Nat) (hg : g = w.heap.size) (hc : cs = (l.map (Value.int .u32)).toArray) (hn : l.length = n) (hm : n ≤ 1000) (hl : ∀ x ∈ l, Limb x) :
    Sl (w.alloc (.cells cs 66)) (w.alloc (.cells cs 66)).heap.size (some ⟨g, 0, none⟩) n n l := by
  subst hg; subst hc
  obtain ⟨A, c, e, hs, _⟩ := Sl.of_own (lit_own w l n hn hm) hl
  cases e
  exact hs
/-- This list, and an error. -/
def LitPost (er : Int) (L : List Int) (w : World) (e : Ending) (w' : World) : Prop :=
  ∃ (A : Option Addr) (n c : Nat), e = .returned (.tuple #[.slice A n c, .int .i64 er]) ∧ Sl w' w'.heap.size A n c L ∧ L.length = n ∧ Below w.heap.size w w'
theorem NatRPost.lit {er v : Int} {w : World} {e : Ending} {w' : World} (h : NatRPost er v w e w') {er' : Int} (L : List Int) (he : er = er') (hl : ∀ x ∈ L, Limb x) (hn : Norm L) (hv : v = natV L) : LitPost er' L w e w' := by
  obtain ⟨A, n, c, l, rfl, h1, h2, h3, _, h5⟩ := h
  obtain rfl := norm_unique h1.lim hl h2 hn (h3.trans hv)
  subst he
  exact ⟨A, n, c, rfl, h1, h1.len, h5⟩
def Lit1Post (L : List Int) (w : World) (e : Ending) (w' : World) : Prop :=
  ∃ (A : Option Addr) (n c : Nat), e = .returned (.slice A n c) ∧ Sl w' w'.heap.size A n c L ∧ L.length = n ∧ Below w.heap.size w w'
theorem NatPost.lit {v : Int} {w : World} {e : Ending} {w' : World} (h : NatPost v w e w') (L : List Int) (hl : ∀ x ∈ L, Limb x) (hn : Norm L) (hv : v = natV L) : Lit1Post L w e w' := by
  obtain ⟨A, n, c, l, rfl, h1, h2, h3, _, h5⟩ := h
  obtain rfl := norm_unique h1.lim hl h2 hn (h3.trans hv)
  exact ⟨A, n, c, rfl, h1, h1.len, h5⟩
def Lit2Post (er : Int) (L K : List Int) (w : World) (e : Ending) (w' : World) : Prop :=
  ∃ (A : Option Addr) (n c : Nat) (B : Option Addr) (m d : Nat), e = .returned (.tuple #[.slice A n c, .slice B m d, .int .i64 er]) ∧ Sl w' w'.heap.size A n c L ∧ L.length = n ∧ Sl w' w'.heap.size B m d K ∧ K.length = m ∧ Below w.heap.size w w'
theorem NatR2Post.lit {er q r : Int} {w : World} {e : Ending} {w' : World} (h : NatR2Post er q r w e w') {er' : Int} (L K : List Int) (he : er = er') (hl : ∀ x ∈ L, Limb x) (hn : Norm L) (hv : q = natV L) (kl : ∀ x ∈ K, Limb x) (kn : Norm K) (kv : r = natV K) : Lit2Post er' L K w e w' := by
  obtain ⟨A, n, c, l, B, m, d, k, rfl, ⟨h1, h2, h3, _⟩, ⟨g1, g2, g3, _⟩, h5⟩ := h
  obtain rfl := norm_unique h1.lim hl h2 hn (h3.trans hv)
  obtain rfl := norm_unique g1.lim kl g2 kn (g3.trans kv)
  subst he
  exact ⟨A, n, c, B, m, d, rfl, h1, h1.len, g1, g1.len, h5⟩
def LitBPost (er : Int) (b : Bool) (L : List Int) (w : World) (e : Ending) (w' : World) : Prop :=
  ∃ (A : Option Addr) (n c : Nat), e = .returned (.tuple #[.slice A n c, .bool b, .int .i64 er]) ∧ Sl w' w'.heap.size A n c L ∧ L.length = n ∧ Below w.heap.size w w'
theorem NatBRPost.lit {er v : Int} {b : Bool} {w : World} {e : Ending} {w' : World} (h : NatBRPost er v b w e w') {er' : Int} {b' : Bool} (L : List Int) (he : er = er') (hb : b = b') (hl : ∀ x ∈ L, Limb x) (hn : Norm L) (hv : v = natV L) : LitBPost er' b' L w e w' := by
  obtain ⟨A, n, c, l, rfl, h1, h2, h3, _, h5⟩ := h
  obtain rfl := norm_unique h1.lim hl h2 hn (h3.trans hv)
  subst he; subst hb
  exact ⟨A, n, c, rfl, h1, h1.len, h5⟩
variable {A B : Option Addr} {n m c d : Nat}
theorem ex_trim (w : World) (h : Sl w w.heap.size A n c [5, 0, 0]) : Calls Tryd.prog 13 #[.slice A n c] w (Lit1Post [5] w) :=
  (ntrim_any A n c _ w h (by have := h.len; simp at this; omega)).mono fun _ _ z => z.lit [5] (by decide) (norm_last rfl (by decide)) (by decide)
theorem ex_of (w : World) : Calls Tryd.prog 15 #[.int .u64 4294967296] w (Lit1Post [0, 1] w) :=
  (nof_any 4294967296 ⟨by decide, by decide⟩ w).mono fun _ _ z => z.lit [0, 1] (by decide) (norm_last rfl (by decide)) (by decide)
theorem ex_value1 (w : World) (h : Sl w w.heap.size A n c [1, 1]) : Calls Tryd.prog 17 #[.slice A n c] w fun e w' => e = .returned (.tuple #[.int .u64 4294967297, .bool true]) ∧ Below w.heap.size w w' :=
  (nvalue_any A n c _ w h (by have := h.len; simp at this; omega)).mono fun _ _ z => z
theorem ex_value2 (w : World) (h : Sl w w.heap.size A n c [0, 0, 1]) : Calls Tryd.prog 17 #[.slice A n c] w fun e w' => e = .returned (.tuple #[.int .u64 0, .bool false]) ∧ Below w.heap.size w w' :=
  (nvalue_any A n c _ w h (by have := h.len; simp at this; omega)).mono fun _ _ z => z
theorem ex_add (w : World) (h : Sl w w.heap.size A n c [4294967295]) (h' : Sl w w.heap.size B m d [1]) : Calls Tryd.prog 23 #[.slice A n c, .slice B m d] w (LitPost 0 [0, 1] w) :=
  (nadd_all A B n m c d _ _ w h h' (by have := h.len; simp at this; omega) (by have := h'.len; simp at this; omega)).mono fun _ _ z => z.lit [0, 1] (by decide +kernel) (by decide) (norm_last rfl (by decide)) (by decide +kernel)
theorem ex_sub1 (w : World) (h : Sl w w.heap.size A n c [0, 1]) (h' : Sl w w.heap.size B m d [1]) : Calls Tryd.prog 25 #[.slice A n c, .slice B m d] w (LitPost 0 [4294967295] w) :=
  (nsub_all A B n m c d _ _ w h h' (by have := h.len; simp at this; omega) (by have := h'.len; simp at this; omega)).mono fun _ _ z => z.lit [4294967295] (by decide +kernel) (by decide) (norm_last rfl (by decide)) (by decide +kernel)
theorem ex_sub2 (w : World) (h : Sl w w.heap.size A n c [1]) (h' : Sl w w.heap.size B m d [2]) : Calls Tryd.prog 25 #[.slice A n c, .slice B m d] w (LitPost 6 [] w) :=
  (nsub_all A B n m c d _ _ w h h' (by have := h.len; simp at this; omega) (by have := h'.len; simp at this; omega)).mono fun _ _ z => z.lit [] (by decide +kernel) (by decide) norm_nil (by decide +kernel)
theorem ex_mul (w : World) (h : Sl w w.heap.size A n c [0, 1]) (h' : Sl w w.heap.size B m d [0, 1]) : Calls Tryd.prog 27 #[.slice A n c, .slice B m d] w (LitPost 0 [0, 0, 1] w) :=
  (nmul_all A B n m c d _ _ w h h' (by have := h.len; simp at this; omega) (by have := h'.len; simp at this; omega)).mono fun _ _ z => z.lit [0, 0, 1] (by decide +kernel) (by decide) (norm_last rfl (by decide)) (by decide +kernel)
theorem ex_div1 (w : World) (h : Sl w w.heap.size A n c [7]) (h' : Sl w w.heap.size B m d [2]) : Calls Tryd.prog 29 #[.slice A n c, .slice B m d] w (Lit2Post 0 [3] [1] w) :=
  (ndiv_any A B n m c d _ _ w h h' (by have := h.len; simp at this; omega) (by have := h'.len; simp at this; omega)).mono fun _ _ z => z.lit [3] [1] (by decide +kernel) (by decide) (norm_last rfl (by decide)) (by decide +kernel) (by decide) (norm_last rfl (by decide)) (by decide +kernel)
theorem ex_div2 (w : World) (h : Sl w w.heap.size A n c [1]) : Calls Tryd.prog 29 #[.slice A n c, .slice none 0 0] w (Lit2Post 10 [] [] w) :=
  (ndiv_any A none n 0 c 0 _ [] w h (Sl.nil_ _ _) (by have := h.len; simp at this; omega) (by omega)).mono fun _ _ z => z.lit [] [] (by decide +kernel) (by decide) norm_nil (by decide +kernel) (by decide) norm_nil (by decide +kernel)
theorem ex_len (w : World) (h : Sl w w.heap.size A n c [0, 1]) : Calls Tryd.prog 19 #[.slice A n c] w fun e w' => e = .returned (.int .i64 33) ∧ w = w' := by
  refine (natlen_sl A n c _ w h (by have := h.len; simp at this; omega)).mono ?_
  rintro e w' ⟨k, hk, _, rfl, rfl⟩
  have b1 : Bits (natV [0, 1]) 33 := ⟨by decide, by decide +kernel, fun _ => by decide +kernel⟩
  have : k = 33 := bits_unique (by decide) hk b1
  subst this
  exact ⟨rfl, rfl⟩
theorem ex_shl1 (w : World) (h : Sl w w.heap.size A n c [1]) : Calls Tryd.prog 31 #[.slice A n c, .int .i64 33] w (LitPost 0 [0, 2] w) :=
  (nshl_all A n c _ 33 w h (by have := h.len; simp at this; omega) (by decide) (by decide)).mono fun _ _ z => z.lit [0, 2] (by decide +kernel) (by decide) (norm_last rfl (by decide)) (by decide +kernel)
theorem ex_shl2 (w : World) (h : Sl w w.heap.size A n c [1]) : Calls Tryd.prog 31 #[.slice A n c, .int .i64 8192] w (LitPost 2 [] w) :=
  (nshl_all A n c _ 8192 w h (by have := h.len; simp at this; omega) (by decide) (by decide)).mono fun _ _ z => z.lit [] (by decide +kernel) (by decide) norm_nil (by decide +kernel)
theorem ex_shl3 (w : World) : Calls Tryd.prog 31 #[.slice none 0 0, .int .i64 8192] w (LitPost 0 [] w) :=
  (nshl_all none 0 0 [] 8192 w (Sl.nil_ _ _) (by omega) (by decide) (by decide)).mono fun _ _ z => z.lit [] (by decide +kernel) (by decide) norm_nil (by decide +kernel)
theorem ex_shr (w : World) (h : Sl w w.heap.size A n c [0, 1]) : Calls Tryd.prog 33 #[.slice A n c, .int .i64 33] w (LitBPost 0 true [] w) :=
  (nshr_any A n c _ 33 w h (by have := h.len; simp at this; omega) (by decide) (by decide)).mono fun _ _ z => z.lit [] (by decide +kernel) (by decide +kernel) (by decide) norm_nil (by decide +kernel)
theorem ex_pow1 (w : World) : Calls Tryd.prog 35 #[.int .i64 10, .int .i64 10] w (LitPost 0 [1410065408, 2] w) :=
  (npow_any 10 10 (by decide) (by decide) (by decide) (by decide) w).mono fun _ _ z => z.lit [1410065408, 2] (by decide +kernel) (by decide) (norm_last rfl (by decide)) (by decide +kernel)
theorem ex_pow2 (w : World) : Calls Tryd.prog 35 #[.int .i64 0, .int .i64 0] w (LitPost 0 [1] w) :=
  (npow_any 0 0 (by decide) (by decide) (by decide) (by decide) w).mono fun _ _ z => z.lit [1] (by decide +kernel) (by decide) (norm_last rfl (by decide)) (by decide +kernel)
theorem ex_pow3 (w : World) : Calls Tryd.prog 35 #[.int .i64 2, .int .i64 8192] w (LitPost 2 [] w) :=
  (npow_any 2 8192 (by decide) (by decide) (by decide) (by decide) w).mono fun _ _ z => z.lit [] (by decide +kernel) (by decide) norm_nil (by decide +kernel)
theorem ex_digits (w : World) (h : Sl w w.heap.size A n c [0, 1]) : Calls Tryd.prog 39 #[.slice A n c] w fun e w' => e = .returned (.string ⟨#[52, 50, 57, 52, 57, 54, 55, 50, 57, 54]⟩) ∧ Below w.heap.size w w' := by
  refine (ndigits_any A n c _ w h (by have := h.len; simp at this; omega)).mono ?_
  rintro e w' ⟨l, rfl, hc, hv, hb⟩
  have c2 : Canon [52, 50, 57, 52, 57, 54, 55, 50, 57, 54] := ⟨fun b hb => by revert b; decide, by simp, .inr (by decide)⟩
  have := canon_unique hc c2 (by rw [hv]; decide +kernel)
  subst this
  exact ⟨rfl, hb⟩
theorem ex_parse1 (w : World) : Calls Tryd.prog 37 #[.string ⟨#[48, 48, 55]⟩] w (LitPost 0 [7] w) :=
  (nparse_ok ⟨#[48, 48, 55]⟩ w (by decide) ⟨by simp, fun b hb => by
    have : b ∈ ([48, 48, 55] : List UInt8) := hb
    revert b; decide⟩).mono fun _ _ z => z.lit [7] (by decide +kernel) (by decide) (norm_last rfl (by decide)) (by decide +kernel)
theorem ex_parse2 (w : World) : Calls Tryd.prog 37 #[.string ⟨#[45, 49]⟩] w (LitPost 3 [] w) :=
  (nparse_bad ⟨#[45, 49]⟩ w (by decide) (fun z => by
    have := z.2 45 (by simp)
    revert this; decide)).mono fun _ _ z => z.lit [] rfl (by decide) norm_nil rfl
end Go.Proofs.YtmjidpkddiinaaaDoor

/-
  What the statements of chapter 1 want of lengths and lists.
-/
namespace Go.Proofs.YtmjidpkddiinaaaDoor
open Go.RowKit Go.Shelf

theorem via1' {w X x : World} (h1 : Below w.heap.size w X) (h2 : Below X.heap.size X x) : Below w.heap.size w x := h1.trans (h2.mono h1.size)
def lenV (v : Int) : Int := (blen v : Int)
theorem lenV_bits {v : Int} {k : Nat} (hz : v ≠ 0) (h : Bits v k) : (k : Int) = lenV v := by unfold lenV; rw [blen_of hz h]
theorem nlen_any (A : Option Addr) (n c : Nat) (l : List Int) (w : World) (h : Sl w w.heap.size A n c l) (hn : n ≤ 30000) :
    Calls Tryd.prog 19 #[.slice A n c] w fun e w' => e = .returned (.int .i64 (lenV (natV l))) ∧ Below w.heap.size w w' := by
  by_cases hz : natV l = 0
  · refine (natlen_zero A n c l w h hn hz).mono ?_
    rintro e w' ⟨rfl, rfl⟩
    rw [hz]
    exact ⟨rfl, Below.refl _ _⟩
  · refine (natlen_sl A n c l w h hn).mono ?_
    rintro e w' ⟨k, hk, _, rfl, rfl⟩
    exact ⟨by rw [lenV_bits hz hk], Below.refl _ _⟩
theorem bits_of_len {v L : Int} (h : LenIs v L) : ∃ k : Nat, L = (k : Int) ∧ Bits v k := by
  obtain ⟨k, rfl⟩ := Int.eq_ofNat_of_zero_le h.n0
  exact ⟨k, rfl, ⟨h.v0, h.lt, h.ge⟩⟩
theorem rlen2_any (A : Option Addr) (n c : Nat) (l : List Int) (w : World) (h : Sl w w.heap.size A n c l) (hn : n ≤ 30000) :
    Calls Tryd.prog 20 #[.slice A n c] w fun e w' => e = .returned (.int .i64 (lenV (natV l))) ∧ Below w.heap.size w w' := by
  refine (rlen_any A n c l w h (by omega)).mono ?_
  rintro e w' ⟨L, hL, rfl, hb⟩
  refine ⟨?_, hb⟩
  by_cases hz : natV l = 0
  · rw [hL.z hz, hz]; rfl
  · obtain ⟨k, rfl, hk⟩ := bits_of_len hL
    rw [lenV_bits hz hk]
set_option maxHeartbeats 2000000 in
theorem same_all (A B : Option Addr) (n m c d : Nat) (l : List Int) (w : World) (h : Sl w w.heap.size A n c l) (h' : Sl w w.heap.size B m d l) :
    Calls Tryd.prog 12 #[.slice A n c, .slice B m d] w fun e w' => e = .returned (.bool true) ∧ Below w.heap.size w w' := by
  have e1 := h.len
  have e2 := h'.len
  obtain rfl : n = m := by omega
  have HC : Hid (∀ i : Nat, i < n → ∃ b o b' o', A = some ⟨b, o, none⟩ ∧ B = some ⟨b', o', none⟩ ∧ w.cell? ⟨b, o + i, none⟩ = some (.int .u32 (digV l i)) ∧ w.cell? ⟨b', o' + i, none⟩ = some (.int .u32 (digV l i))) := fun i hi => by
    rcases h.rd with h0 | ⟨b, o, rfl, _, hc⟩
    · omega
    rcases h'.rd with h0 | ⟨b', o', rfl, _, hc'⟩
    · omega
    exact ⟨b, o, b', o', rfl, rfl, by rw [hc i (by omega), digV_lt], by rw [hc' i (by omega), digV_lt]⟩
  have nb : (n : Int) ≤ 9223372036854775807 := by
    have a1 := h.cap
    have a2 := h.max
    unfold maxLen at a2
    omega
  clear h h' e1 e2
  go_enter Tryd.func12, Tryd.ntmps12
  go_wp2
  go_loopw [5] (fun ii wx => ∃ i : Nat, ii = .int .i64 (i : Int) ∧ i ≤ n ∧ ∃ q, w.drewN q = wx) (fun ii _ => n - (intOf ii).toNat)
  case atStart => exact ⟨0, rfl, by omega, 0, rfl⟩
  case round =>
    obtain ⟨i, rfl, hi, q, rfl⟩ := hrel
    by_cases hlt : i < n
    · have ilt : (i : Int) < (n : Int) := by omega
      have i0 : (0 : Int) ≤ (i : Int) := by omega
      obtain ⟨b, o, b', o', rfl, rfl, c1, c2⟩ := HC.out i hlt
      generalize digV l i = X at *
      have t0 : (X == X) = true := beq_self_eq_true X
      have t1 : (X != X) = false := by simp
      clear HC
      go_wp2
      go_quiet (fail)
      go_wp2
      go_roundw
      case rel => exact ⟨i + 1, by go_num, by omega, _, rfl⟩
      case measure => simp [intOf]; omega
    · have hge : ¬ (i : Int) < (n : Int) := by omega
      clear HC
      go_wp2
      go_ret
      exact ⟨rfl, below_drewN (Below.refl _ _) _⟩
theorem equal_all (A B : Option Addr) (n m c d : Nat) (l k : List Int) (w : World) (h : Sl w w.heap.size A n c l) (h' : Sl w w.heap.size B m d k) (nl : Norm l) (nk : Norm k) (e : natV l = natV k) (hn : n ≤ 30000) :
    Calls Tryd.prog 41 #[.slice A n c, .slice B m d] w fun e W' => e = .returned (.bool true) ∧ Below w.heap.size w W' :=
  equal_any A B n m c d l k w h h' hn (norm_unique h.lim h'.lim nl nk e)
/-- A right list of a number within the bound is short. -/
theorem nat_len {w : World} {B : Nat} {A : Option Addr} {n c : Nat} {l : List Int} {v : Int} (h : Sl w B A n c l) (hn : Norm l) (hv : natV l = v) (hb : v < pw 8192) : n ≤ 256 := by
  have := norm_len (k := 256) h.lim hn (by rw [hv]; exact hb)
  rw [h.len] at this; exact this
end Go.Proofs.YtmjidpkddiinaaaDoor

/-
  The operations of chapter 1 where nothing is too great: what the statements without the document's answer want.
-/
namespace Go.Proofs.YtmjidpkddiinaaaDoor
open Go.RowKit Go.Shelf

theorem sl_bound {w : World} {B : Nat} {A : Option Addr} {n c : Nat} {l : List Int} (h : Sl w B A n c l) {k : Nat} (hn : n ≤ k) : natV l < pw (32 * (k : Int)) := by
  have e := h.len
  exact Int.lt_of_lt_of_le (natV_lt h.lim) (pw_mono (by omega) (by omega))
theorem pw_le_8192 {k : Int} (h0 : 0 ≤ k) (h : k ≤ 8192) : pw k ≤ pw 8192 := pw_mono h0 h
theorem mul_bound {a b : Int} {i j : Int} (ha : 0 ≤ a) (_hb : 0 ≤ b) (h1 : a < pw i) (h2 : b < pw j) (hi : 0 ≤ i) (hj : 0 ≤ j) : a * b < pw (i + j) := by
  rw [pw_add i j hi hj]
  have p := pw_pos j
  by_cases hz : a = 0
  · subst hz; rw [Int.zero_mul]; exact Int.mul_pos (pw_pos i) p
  exact Int.lt_of_lt_of_le (Int.mul_lt_mul_of_pos_left h2 (by omega)) (Int.mul_le_mul_of_nonneg_right (by omega) (by omega))
theorem add_bound {a b : Int} {i : Int} (h1 : a < pw i) (h2 : b < pw i) (hi : 0 ≤ i) : a + b < pw (i + 1) := by
  rw [pw_succ i hi]; omega
theorem nadd_sm (A B : Option Addr) (n m c d : Nat) (a b : List Int) (w : World) (h : Sl w w.heap.size A n c a) (h' : Sl w w.heap.size B m d b) (hn : n ≤ 3000) (hm : m ≤ 3000) {x y : Int} (hx : natV a = x) (hy : natV b = y) (hs : x + y < pw 8192) :
    Calls Tryd.prog 23 #[.slice A n c, .slice B m d] w (NatRPost 0 (x + y) w) := by
  subst hx hy
  have a0 := natV_nonneg h.lim
  have b0 := natV_nonneg h'.lim
  have := nadd_all A B n m c d a b w h h' hn hm
  unfold addE addV at this
  rw [(both_ok (v := 0) ⟨by omega, by omega⟩).1, (both_ok (e := 0) ⟨by omega, by omega⟩).2, (over_ok hs).1, (over_ok hs).2] at this
  exact this
theorem nmul_sm (A B : Option Addr) (n m c d : Nat) (a b : List Int) (w : World) (h : Sl w w.heap.size A n c a) (h' : Sl w w.heap.size B m d b) (hn : n ≤ 3000) (hm : m ≤ 3000) {x y : Int} (hx : natV a = x) (hy : natV b = y) (h1 : x < pw 8192) (h2 : y < pw 8192) (hs : x * y < pw 8192) :
    Calls Tryd.prog 27 #[.slice A n c, .slice B m d] w (NatRPost 0 (x * y) w) := by
  subst hx hy
  have := nmul_all A B n m c d a b w h h' hn hm
  unfold mulE mulV at this
  rw [(both_ok (v := 0) ⟨h1, h2⟩).1, (both_ok (e := 0) ⟨h1, h2⟩).2, (over_ok hs).1, (over_ok hs).2] at this
  exact this
theorem nsub_sm (A B : Option Addr) (n m c d : Nat) (a b : List Int) (w : World) (h : Sl w w.heap.size A n c a) (h' : Sl w w.heap.size B m d b) (hn : n ≤ 3000) (hm : m ≤ 3000) {x y : Int} (hx : natV a = x) (hy : natV b = y) (h1 : x < pw 8192) (hs : y ≤ x) :
    Calls Tryd.prog 25 #[.slice A n c, .slice B m d] w (NatRPost 0 (x - y) w) := by
  subst hx hy
  have := nsub_all A B n m c d a b w h h' hn hm
  unfold subE subV at this
  rw [(both_ok (v := 0) ⟨h1, by omega⟩).1, (both_ok (e := 0) ⟨h1, by omega⟩).2, if_neg (by omega), if_neg (by omega)] at this
  exact this
theorem ndiv_sm (A B : Option Addr) (n m c d : Nat) (a b : List Int) (w : World) (h : Sl w w.heap.size A n c a) (h' : Sl w w.heap.size B m d b) (hn : n ≤ 3000) (hm : m ≤ 3000) {x y : Int} (hx : natV a = x) (hy : natV b = y) (h1 : x < pw 8192) (h2 : y < pw 8192) (hz : y ≠ 0) :
    Calls Tryd.prog 29 #[.slice A n c, .slice B m d] w (NatR2Post 0 (x / y) (x % y) w) := by
  subst hx hy
  have := ndiv_any A B n m c d a b w h h' hn hm
  unfold divE divQ divR at this
  rw [if_pos ⟨h1, h2⟩, if_neg hz, if_pos ⟨⟨h1, h2⟩, hz⟩, if_pos ⟨⟨h1, h2⟩, hz⟩] at this
  exact this
theorem ndiv_z (A B : Option Addr) (n m c d : Nat) (a b : List Int) (w : World) (h : Sl w w.heap.size A n c a) (h' : Sl w w.heap.size B m d b) (hn : n ≤ 3000) (hm : m ≤ 3000) (h1 : natV a < pw 8192) (hz : natV b = 0) :
    Calls Tryd.prog 29 #[.slice A n c, .slice B m d] w (NatR2Post 10 0 0 w) := by
  have := ndiv_any A B n m c d a b w h h' hn hm
  unfold divE divQ divR at this
  rw [if_pos ⟨h1, by rw [hz]; exact pw_pos _⟩, if_pos hz, if_neg (fun k => k.2 hz), if_neg (fun k => k.2 hz)] at this
  exact this
theorem nshl_sm (A : Option Addr) (n c : Nat) (a : List Int) (s : Int) (w : World) (h : Sl w w.heap.size A n c a) (hn : n ≤ 2000) {x : Int} (hx : natV a = x) (s0 : 0 ≤ s) (s1 : s ≤ 8192) (hs : x * pw s < pw 8192) :
    Calls Tryd.prog 31 #[.slice A n c, .int .i64 s] w (NatRPost 0 (x * pw s) w) := by
  subst hx
  have := nshl_all A n c a s w h hn (by omega) (by omega)
  unfold shlE shlV at this
  rw [if_neg (show ¬ s < 0 by omega), if_neg (show ¬ s < 0 by omega), if_pos hs, if_pos hs] at this
  exact this
theorem nshr_sm (A : Option Addr) (n c : Nat) (a : List Int) (s : Int) (w : World) (h : Sl w w.heap.size A n c a) (hn : n ≤ 3000) {x : Int} (hx : natV a = x) (s0 : 0 ≤ s) (s1 : s ≤ 8192) (hs : x < pw 8192) :
    Calls Tryd.prog 33 #[.slice A n c, .int .i64 s] w (NatBRPost 0 (x / pw s) (decide (x % pw s ≠ 0)) w) := by
  subst hx
  have := nshr_any A n c a s w h hn (by omega) (by omega)
  unfold shrE shrV shrL at this
  rw [if_neg (show ¬ s < 0 by omega), if_neg (show ¬ s < 0 by omega), if_neg (show ¬ s < 0 by omega), if_pos hs, if_pos hs, if_pos hs] at this
  exact this
theorem npow2_sm (s : Int) (w : World) (s0 : 0 ≤ s) (s1 : s ≤ 8191) : Calls Tryd.prog 35 #[.int .i64 2, .int .i64 s] w (NatRPost 0 (pw s) w) := by
  have e : bpow 2 s = pw s := rfl
  have g : ¬ ((2 : Int) < 0 ∨ (1000000 : Int) < 2 ∨ s < 0) := by omega
  have lt : bpow 2 s < pw 8192 := by
    rw [e]
    have := pw_mono (a := s + 1) (b := 8192) (by omega) (by omega)
    rw [pw_succ s s0] at this
    have := pw_pos s
    omega
  have := npow_any 2 s (by omega) (by omega) (by omega) (by omega) w
  rw [(bpow_ok g lt).1, (bpow_ok g lt).2, e] at this
  exact this
theorem sl_nil_of {w : World} {B : Nat} {A : Option Addr} {n c : Nat} {l : List Int} (h : Sl w B A n c l) (hn : Norm l) (hv : natV l = 0) : n = 0 := by
  have := norm_len (k := 0) h.lim hn (by rw [hv]; exact pw_pos _)
  rw [h.len] at this; omega
theorem sl_pos_of {w : World} {B : Nat} {A : Option Addr} {n c : Nat} {l : List Int} (h : Sl w B A n c l) (hv : natV l ≠ 0) : 0 < n := by
  rcases Nat.eq_zero_or_pos n with h0 | h0
  · exfalso
    have := h.len
    rw [h0] at this
    exact hv (by rw [List.eq_nil_of_length_eq_zero this]; rfl)
  · exact h0
theorem lenV_zero : lenV 0 = 0 := rfl
theorem lenV_pos {v : Int} (h0 : 0 ≤ v) (h : v ≠ 0) : 0 < lenV v := by
  unfold lenV
  rcases Nat.eq_zero_or_pos (blen v) with e | e
  · have hb := blen_bits h0
    rw [e] at hb
    have := hb.lt
    rw [show pw ((0 : Nat) : Int) = 1 from rfl] at this
    omega
  · omega
theorem lenV_le {v : Int} (h0 : 0 ≤ v) {k : Nat} (h : v < pw (k : Int)) : lenV v ≤ (k : Int) := by
  unfold lenV
  by_cases hz : v = 0
  · subst hz; rw [show blen 0 = 0 from rfl]; omega
  have hb := blen_bits h0
  rcases Nat.lt_or_ge k (blen v) with g | g
  · have h1 := lenV_pos h0 hz
    unfold lenV at h1
    have h2 := hb.ge hz
    have h3 := pw_mono (a := (k : Int) + 1) (b := (blen v : Int)) (by omega) (by omega)
    rw [pw_succ _ (by omega)] at h3
    omega
  · omega
theorem lenV_mul {v s : Int} (h0 : 0 ≤ v) (h : v ≠ 0) (s0 : 0 ≤ s) : lenV (v * pw s) = lenV v + s := by
  have hb := blen_bits h0
  have hp := lenV_pos h0 h
  unfold lenV at hp ⊢
  obtain ⟨k, rfl⟩ := Int.eq_ofNat_of_zero_le s0
  have ps := pw_pos (k : Int)
  have key : Bits (v * pw (k : Int)) (blen v + k) := by
    refine ⟨Int.mul_nonneg h0 (by omega), ?_, ?_⟩
    · rw [show ((blen v + k : Nat) : Int) = (blen v : Int) + (k : Int) by omega, pw_add _ _ (by omega) (by omega)]
      exact Int.mul_lt_mul_of_pos_right hb.lt ps
    · intro _
      rw [show ((blen v + k : Nat) : Int) = (blen v : Int) + (k : Int) by omega, pw_add _ _ (by omega) (by omega), ← Int.mul_assoc]
      exact Int.mul_le_mul_of_nonneg_right (hb.ge h) (by omega)
  rw [blen_of (Int.ne_of_gt (Int.mul_pos (by omega) ps)) key]
  omega
end Go.Proofs.YtmjidpkddiinaaaDoor

