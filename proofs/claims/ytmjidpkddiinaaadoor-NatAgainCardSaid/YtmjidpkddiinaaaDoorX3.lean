import Derived.Test.YtmjidpkddiinaaaDoorX2
import Derived.Test.YtmjidpkddiinaaaDoorX1
import Derived.Laws.CopyOwn
/-
  A number of 64 bits in two limbs; answers that may be too big.
-/
namespace Go.Proofs.YtmjidpkddiinaaaDoor
open Go.RowKit Go.Shelf

theorem of_two (v : Int) (h : Word v) : (∀ x ∈ [v % 4294967296, v / 4294967296], Limb x) ∧ natV [v % 4294967296, v / 4294967296] = v := by
  obtain ⟨h0, h1⟩ := h
  refine ⟨fun x hx => ?_, by simp only [natV]; omega⟩
  simp only [List.mem_cons, List.not_mem_nil, or_false] at hx
  rcases hx with rfl | rfl <;> exact ⟨by omega, by omega⟩
/-- A right list of the call's own, and an error. -/
def NatRPost (er v : Int) (w : World) (e : Ending) (w' : World) : Prop :=
  ∃ (A : Option Addr) (n c : Nat) (l : List Int), e = .returned (.tuple #[.slice A n c, .int .i64 er]) ∧ Sl w' w'.heap.size A n c l ∧ Norm l ∧ natV l = v ∧ Fresh w.heap.size A ∧ Below w.heap.size w w'
theorem NatRPost.mk {A : Option Addr} {n c : Nat} {l : List Int} {er v : Int} {w w' : World} (hs : Sl w' w'.heap.size A n c l) (hn : Norm l) (hv : natV l = v) (fr : Fresh w.heap.size A) (hb : Below w.heap.size w w') : NatRPost er v w (.returned (.tuple #[.slice A n c, .int .i64 er])) w' := ⟨A, n, c, l, rfl, hs, hn, hv, fr, hb⟩
theorem NatRPost.nil {er : Int} {w w' : World} (hb : Below w.heap.size w w') : NatRPost er 0 w (.returned (.tuple #[.slice none 0 0, .int .i64 er])) w' := ⟨none, 0, 0, [], rfl, Sl.nil_ _ _, norm_nil, rfl, (fun _ e => by cases e), hb⟩
theorem NatOPost.r {v : Int} {w : World} {e : Ending} {w' : World} (h : NatOPost v w e w') : NatRPost 0 v w e w' := h
theorem NatRPost.on {er v : Int} {w w1 : World} {e : Ending} {w2 : World} (h : NatRPost er v w1 e w2) (hb : Below w.heap.size w w1) : NatRPost er v w e w2 := by
  obtain ⟨A, n, c, l, rfl, h1, h2, h3, h4, h5⟩ := h
  exact ⟨A, n, c, l, rfl, h1, h2, h3, h4.mono hb.size, hb.trans (h5.mono hb.size)⟩
def overE (v : Int) : Int := if v < pw 8192 then 0 else 2
def overV (v : Int) : Int := if v < pw 8192 then v else 0
theorem over_ok {v : Int} (h : v < pw 8192) : overE v = 0 ∧ overV v = v := by unfold overE overV; rw [if_pos h, if_pos h]; exact ⟨rfl, rfl⟩
theorem over_no {v : Int} (h : pw 8192 ≤ v) : overE v = 2 ∧ overV v = 0 := by unfold overE overV; rw [if_neg (by omega), if_neg (by omega)]; exact ⟨rfl, rfl⟩
/-- An error and a number of two numbers that must be within the bound. -/
def bothE (a b e : Int) : Int := if a < pw 8192 ∧ b < pw 8192 then e else 2
def bothV (a b v : Int) : Int := if a < pw 8192 ∧ b < pw 8192 then v else 0
theorem both_ok {a b e v : Int} (h : a < pw 8192 ∧ b < pw 8192) : bothE a b e = e ∧ bothV a b v = v := by unfold bothE bothV; rw [if_pos h, if_pos h]; exact ⟨rfl, rfl⟩
theorem both_no {a b e v : Int} (h : ¬ (a < pw 8192 ∧ b < pw 8192)) : bothE a b e = 2 ∧ bothV a b v = 0 := by unfold bothE bothV; rw [if_neg h, if_neg h]; exact ⟨rfl, rfl⟩
theorem NatRPost.of {er v er' v' : Int} {w : World} {e : Ending} {w' : World} (h : NatRPost er v w e w') (he : er = er') (hv : v = v') : NatRPost er' v' w e w' := by subst he; subst hv; exact h
end Go.Proofs.YtmjidpkddiinaaaDoor

/-
  Package nat: core, order, fits, bounded, Of: walked.
-/
namespace Go.Proofs.YtmjidpkddiinaaaDoor
open Go.RowKit Go.Shelf

theorem Sl.take {w : World} {B : Nat} {A : Option Addr} {n c k : Nat} {l : List Int} (h : Sl w B A n c l) (hk : k ≤ n) : Sl w B A k c (l.take k) := by
  refine ⟨by rw [List.length_take, h.len]; omega, Nat.le_trans hk h.cap, h.max, limbs_take h.lim k, fun e => ⟨by have := (h.nil e).1; omega, (h.nil e).2⟩, ?_⟩
  rcases h.rd with h0 | ⟨b, o, hA, hb, hc⟩
  · exact .inl (by omega)
  · exact .inr ⟨b, o, hA, hb, fun i hi => by
      rw [List.length_take] at hi
      rw [hc i (by omega)]; simp⟩
def CoreP (A : Option Addr) (n c : Nat) (l : List Int) (w : World) (e : Ending) (w' : World) : Prop :=
  ∃ k : Nat, k ≤ n ∧ Norm (l.take k) ∧ natV (l.take k) = natV l ∧ e = .returned (.slice A k c) ∧ w = w'
set_option maxHeartbeats 1000000 in
theorem core_zero (A : Option Addr) (c : Nat) (w : World) : Calls Tryd.prog 42 #[.slice A 0 c] w fun e w' => e = .returned (.slice A 0 c) ∧ w = w' := by
  go_enter Tryd.func42, Tryd.ntmps42
  go_wp2
  refine wp_loop_rounds 1 ?_
  rw [rounds_succ]
  go_wp2
  go_ret
  exact ⟨rfl, rfl⟩
theorem core_sl (A : Option Addr) (n c : Nat) (l : List Int) (w : World) (h : Sl w w.heap.size A n c l) (hn : n ≤ 30000) : Calls Tryd.prog 42 #[.slice A n c] w (CoreP A n c l w) := by
  have hm := h.max
  have hcap := h.cap
  unfold maxLen at hm
  rcases h.rd with h0 | ⟨b, o, rfl, hb, hc⟩
  · subst h0
    have e0 : l = [] := List.eq_nil_of_length_eq_zero h.len
    subst e0
    refine (core_zero A c w).mono ?_
    rintro e w' ⟨rfl, rfl⟩
    exact ⟨0, by omega, by simpa using norm_nil, by simp, rfl, rfl⟩
  · have t := core_l l b o c w ⟨hb, hc⟩ (by rw [h.len]; exact hcap) (by omega) (by rw [h.len]; exact hn)
    rw [h.len] at t
    refine t.mono ?_
    rintro e w' ⟨k, hk, rfl, rfl⟩
    refine ⟨k, by have := hk.le; rw [h.len] at this; exact this, norm_take hk.le hk.last, natV_core hk.zeros, rfl, rfl⟩
theorem order_any (b : Bool) (w : World) : Calls Tryd.prog 44 #[.bool b] w fun e w' => e = .returned (.int .i64 (if b = true then -1 else 1)) ∧ w = w' := by
  cases b
  all_goals
    go_enter Tryd.func44, Tryd.ntmps44
    go_wp2
    go_ret
    exact ⟨rfl, rfl⟩
theorem len_256 {l : List Int} (hl : ∀ x ∈ l, Limb x) (hn : Norm l) : l.length ≤ 256 ↔ natV l < pw 8192 := by
  constructor
  · intro h
    have a := natV_lt hl
    have b := pw_mono (a := 32 * (l.length : Int)) (b := 8192) (by omega) (by omega)
    omega
  · intro h
    exact norm_len hl hn (k := 256) (by simpa using h)

/-- A slice of slices of limbs. -/
structure Lists (w : World) (b : Nat) (ls : List (Option Addr × Nat × Nat × List Int)) : Prop where
  lt : b < w.heap.size
  cell : ∀ i : Nat, (h : i < ls.length) → w.cell? ⟨b, i, none⟩ = some (.slice ls[i].1 ls[i].2.1 ls[i].2.2.1)
  sl : ∀ i : Nat, (h : i < ls.length) → Sl w w.heap.size ls[i].1 ls[i].2.1 ls[i].2.2.1 ls[i].2.2.2 ∧ ls[i].2.1 ≤ 30000
theorem fits_any (b : Nat) (ls : List (Option Addr × Nat × Nat × List Int)) (w : World) (h : Lists w b ls) (hn : ls.length ≤ 10) :
    Calls Tryd.prog 45 #[.slice (some ⟨b, 0, none⟩) ls.length ls.length] w fun e w' => e = .returned (.bool (decide (∀ x ∈ ls, natV x.2.2.2 < pw 8192))) ∧ w = w' := by
  have H := Lib.hid h
  obtain ⟨r, hr⟩ : ∃ r, decide (∀ x ∈ ls, natV x.2.2.2 < pw 8192) = r := ⟨_, rfl⟩
  have R := Lib.hid hr
  rw [hr]
  clear h hr
  go_enter Tryd.func45, Tryd.ntmps45
  go_wp2
  go_loopw [7] (fun i wr => ∃ k : Nat, k ≤ ls.length ∧ i = .int .i64 (k : Int) ∧ Hid (∀ t : Nat, t < k → (h : t < ls.length) → natV ls[t].2.2.2 < pw 8192) ∧ w = wr) (fun i _ => ls.length - (intOf i).toNat)
  case atStart => exact ⟨0, by omega, rfl, fun t ht => by omega, rfl⟩
  case round =>
    obtain ⟨k, hk, rfl, hz, rfl⟩ := hrel
    by_cases hlt : k < ls.length
    · have cell := H.out.cell k hlt
      obtain ⟨sl, sn⟩ := H.out.sl k hlt
      have CO := Lib.hid (core_sl _ _ _ _ w sl sn)
      have klt : (k : Int) < (ls.length : Int) := by omega
      have k0 : (0 : Int) ≤ (k : Int) := by omega
      have kb : (k : Int) ≤ 10 := by omega
      have nxt : Hid (natV ls[k].2.2.2 < pw 8192 → ∀ t : Nat, t < k + 1 → (h : t < ls.length) → natV ls[t].2.2.2 < pw 8192) := fun z t ht h => by
        rcases Nat.lt_or_ge t k with c | c
        · exact hz.out t c h
        · obtain rfl : t = k := by omega
          exact z
      have bad : Hid (pw 8192 ≤ natV ls[k].2.2.2 → r = false) := fun z => by
        rw [← R.out]; simp only [decide_eq_false_iff_not]
        exact fun y => by have := y _ (List.getElem_mem hlt); omega
      have lim := Lib.hid sl.lim
      have hlen := Lib.hid sl.len
      obtain ⟨xA, hA⟩ : ∃ z, ls[k].1 = z := ⟨_, rfl⟩
      obtain ⟨xn, hn'⟩ : ∃ z, ls[k].2.1 = z := ⟨_, rfl⟩
      obtain ⟨xc, hc'⟩ : ∃ z, ls[k].2.2.1 = z := ⟨_, rfl⟩
      obtain ⟨xl, hl'⟩ : ∃ z, ls[k].2.2.2 = z := ⟨_, rfl⟩
      rw [hA, hn', hc'] at cell
      rw [hA, hn', hc', hl'] at CO
      rw [hl'] at nxt bad lim
      rw [hn', hl'] at hlen
      rw [hn'] at sn
      clear sl hA hn' hc' hl' H hz R
      go_wp2_with fail
      refine CO.out.mono ?_
      rintro e w1 ⟨j, jn, nrm, ev, rfl, rfl⟩
      have lj : (xl.take j).length = j := by rw [List.length_take, hlen.out]; omega
      have t256 := len_256 (limbs_take lim.out j) nrm
      rw [lj, ev] at t256
      have jb : (j : Int) ≤ 30000 := by omega
      by_cases c : j ≤ 256
      · have cc : ¬ (256 : Int) < (j : Int) := by omega
        have nx := Lib.hid (nxt.out (t256.1 c))
        clear t256 nrm ev lj nxt bad lim hlen CO
        go_wp2
        go_roundw
        case rel => exact ⟨k + 1, by omega, by go_num, nx, by first | trivial | rfl⟩
        case measure => simp [intOf]; omega
      · have cc : (256 : Int) < (j : Int) := by omega
        have fin := Lib.hid (bad.out (by
          rcases Int.lt_or_le (natV xl) (pw 8192) with z | z
          · exact absurd (t256.2 z) c
          · exact z))
        clear t256 nrm ev lj nxt bad lim hlen CO
        go_wp2
        go_ret
        exact ⟨by rw [fin.out]; rfl, rfl⟩
    · have fin : Hid (r = true) := by
        unfold Hid
        rw [← R.out]; simp only [decide_eq_true_eq]
        intro x hx
        obtain ⟨t, ht, rfl⟩ := List.getElem_of_mem hx
        exact hz.out t (by omega) ht
      have hge : (ls.length : Int) ≤ (k : Int) := by omega
      clear hz H R
      go_wp2
      go_ret
      exact ⟨by rw [fin.out]; rfl, rfl⟩
end Go.Proofs.YtmjidpkddiinaaaDoor

/-
  Sums, differences and shifts of lists of limbs: plain facts.
-/
namespace Go.Proofs.YtmjidpkddiinaaaDoor
open Go.RowKit Go.Shelf

theorem digV_set_eq {o : List Int} {i : Nat} {x : Int} (h : i < o.length) : digV (o.set i x) i = x := by
  unfold digV; rw [List.getElem?_set_self h]; rfl
theorem take_set_le (o : List Int) (i : Nat) (x : Int) : (o.set i x).take i = o.take i := by
  apply List.ext_getElem?
  intro j
  rw [List.getElem?_take, List.getElem?_take]
  by_cases c : j < i
  · rw [if_pos c, if_pos c, List.getElem?_set_ne (by omega)]
  · rw [if_neg c, if_neg c]
theorem natV_set_take {o : List Int} {i : Nat} (x : Int) (h : i < o.length) : natV ((o.set i x).take (i + 1)) = natV (o.take i) + pw (32 * (i : Int)) * x := by
  rw [natV_take_dig, take_set_le, digV_set_eq h]
theorem pw32s (i : Nat) : pw (32 * ((i + 1 : Nat) : Int)) = 4294967296 * pw (32 * (i : Int)) := pw32 i

/-- i limbs of a sum that is made in the place of the first summand. -/
structure SumAt2 (x y : List Int) (N i : Nat) (o : List Int) (cy : Int) : Prop where
  len : o.length = N
  lim : ∀ t ∈ o, Limb t
  rest : ∀ t : Nat, i ≤ t → digV o t = digV x t
  v : natV (o.take i) + cy * pw (32 * (i : Int)) = natV (x.take i) + natV (y.take i)
  c0 : 0 ≤ cy
  c1 : cy ≤ 1
theorem sum2_start (x y : List Int) (hx : ∀ t ∈ x, Limb t) (N : Nat) (h : x.length + 1 = N) : SumAt2 x y N 0 (x ++ [0]) 0 := by
  refine ⟨by simp [h], limbs_snoc hx ⟨by decide, by decide⟩, fun t _ => ?_, by simp [natV], by decide, by decide⟩
  unfold digV
  rcases Nat.lt_or_ge t x.length with c | c
  · rw [List.getElem?_append_left c]
  · rw [List.getElem?_append_right c]
    rcases Nat.eq_or_lt_of_le c with d | d
    · rw [← d]; simp
    · rw [List.getElem?_eq_none (by simp; omega), List.getElem?_eq_none (by omega)]
theorem sum2_step {x y o : List Int} {N i : Nat} {cy s : Int} (hx : ∀ t ∈ x, Limb t) (hy : ∀ t ∈ y, Limb t) (h : SumAt2 x y N i o cy) (hi : i < N) (hs : s = digV x i + digV y i + cy) :
    SumAt2 x y N (i + 1) (o.set i (s % 4294967296)) (s / 4294967296) := by
  obtain ⟨h1, h2, h3, h4, h5, h6⟩ := h
  obtain ⟨a0, a1⟩ := digV_limb hx i
  obtain ⟨b0, b1⟩ := digV_limb hy i
  refine ⟨by simp [h1], limbs_set h2 i ⟨by omega, by omega⟩, fun t ht => ?_, ?_, by omega, by omega⟩
  · rw [digV_set_ne (by omega)]; exact h3 t (by omega)
  · rw [natV_set_take _ (by omega), natV_take_dig x, natV_take_dig y, pw32s]
    have e : s = 4294967296 * (s / 4294967296) + s % 4294967296 := by omega
    generalize s / 4294967296 = q at *
    generalize s % 4294967296 = r at *
    generalize pw (32 * (i : Int)) = p at *
    have k : p * (digV x i + digV y i + cy) = p * (4294967296 * q + r) := by rw [← hs, ← e]
    rw [Int.mul_add, Int.mul_add, Int.mul_add, Int.mul_left_comm p] at k
    rw [Int.mul_comm cy p] at h4
    rw [Int.mul_left_comm q, Int.mul_comm q p]
    omega
theorem sum2_end {x y o : List Int} {N : Nat} {cy : Int} (hx : ∀ t ∈ x, Limb t) (hy : ∀ t ∈ y, Limb t) (h : SumAt2 x y N N o cy) (hN : x.length + 1 = N) (hl : y.length ≤ x.length) : natV o = natV x + natV y := by
  have v := h.v
  rw [natV_take_all (by rw [h.len]; omega), natV_take_all (by omega), natV_take_all (by omega)] at v
  have a := natV_lt hx
  have b := natV_lt hy
  have c := pw_mono (a := 32 * (y.length : Int)) (b := 32 * (x.length : Int)) (by omega) (by omega)
  have d := pw32s x.length
  rw [hN] at d
  have o0 := natV_nonneg h.lim
  have c0 := h.c0
  have c1 := h.c1
  have p := pw_pos (32 * (x.length : Int))
  have z : cy = 0 := by
    rcases Int.lt_or_le 0 cy with e | e
    · rw [show cy = 1 by omega, d] at v; omega
    · omega
  rw [z] at v; omega

/-- i limbs of a difference that is made in the place of the first number. -/
structure DiffAt (x y : List Int) (i : Nat) (o : List Int) (bw : Int) : Prop where
  len : o.length = x.length
  lim : ∀ t ∈ o, Limb t
  rest : ∀ t : Nat, i ≤ t → digV o t = digV x t
  v : natV (o.take i) - bw * pw (32 * (i : Int)) = natV (x.take i) - natV (y.take i)
  c0 : 0 ≤ bw
  c1 : bw ≤ 1
theorem diff_start (x y : List Int) (hx : ∀ t ∈ x, Limb t) : DiffAt x y 0 x 0 := ⟨rfl, hx, fun _ _ => rfl, by simp [natV], by decide, by decide⟩
theorem diff_step {x y o : List Int} {i : Nat} {bw s : Int} (hx : ∀ t ∈ x, Limb t) (hy : ∀ t ∈ y, Limb t) (h : DiffAt x y i o bw) (hi : i < x.length) (hs : s = digV x i - digV y i - bw) :
    DiffAt x y (i + 1) (o.set i (s % 4294967296)) (if s < 0 then 1 else 0) := by
  obtain ⟨h1, h2, h3, h4, h5, h6⟩ := h
  obtain ⟨a0, a1⟩ := digV_limb hx i
  obtain ⟨b0, b1⟩ := digV_limb hy i
  refine ⟨by simp [h1], limbs_set h2 i ⟨by omega, by omega⟩, fun t ht => ?_, ?_, by split <;> omega, by split <;> omega⟩
  · rw [digV_set_ne (by omega)]; exact h3 t (by omega)
  · rw [natV_set_take _ (by omega), natV_take_dig x, natV_take_dig y, pw32s]
    obtain ⟨q, hq⟩ : ∃ q : Int, (if s < 0 then 1 else 0) = q := ⟨_, rfl⟩
    have e : s = s % 4294967296 - 4294967296 * q := by rw [← hq]; split <;> omega
    rw [hq]
    generalize s % 4294967296 = r at *
    generalize pw (32 * (i : Int)) = p at *
    have k : p * (digV x i - digV y i - bw) = p * (r - 4294967296 * q) := by rw [← hs, ← e]
    rw [Int.mul_sub, Int.mul_sub, Int.mul_sub, Int.mul_left_comm p] at k
    rw [Int.mul_comm bw p] at h4
    rw [Int.mul_left_comm q, Int.mul_comm q p]
    omega
theorem diff_end {x y o : List Int} {bw : Int} (h : DiffAt x y x.length o bw) (hl : y.length ≤ x.length) (hle : natV y ≤ natV x) : natV o = natV x - natV y := by
  have v := h.v
  rw [natV_take_all (by rw [h.len]; omega), natV_take_all (by omega), natV_take_all hl] at v
  have a := natV_lt h.lim
  rw [h.len] at a
  have c0 := h.c0
  have c1 := h.c1
  have z : bw = 0 := by
    rcases Int.lt_or_le 0 bw with e | e
    · rw [show bw = 1 by omega] at v; omega
    · omega
  rw [z] at v; omega

/-- i limbs of a number shifted up by n places (less than a limb). -/
structure UpAt (x : List Int) (n : Int) (i : Nat) (o : List Int) (cy : Int) : Prop where
  len : o.length = x.length + 1
  lim : ∀ t ∈ o, Limb t
  zero : ∀ t : Nat, i ≤ t → digV o t = 0
  v : natV (o.take i) + cy * pw (32 * (i : Int)) = natV (x.take i) * pw n
  c0 : 0 ≤ cy
  c1 : cy < pw n
theorem up_start (x : List Int) (n : Int) : UpAt x n 0 (List.replicate (x.length + 1) 0) 0 :=
  ⟨by simp, limbs_rep _, fun t _ => by
    rcases Nat.lt_or_ge t (List.replicate (x.length + 1) (0 : Int)).length with c1 | c1
    · rw [digV_lt c1]; simp
    · exact digV_ge c1, by simp [natV], by decide, pw_pos n⟩
theorem up_step {x o : List Int} {n : Int} {i : Nat} {cy s : Int} (hx : ∀ t ∈ x, Limb t) (h : UpAt x n i o cy) (hi : i < x.length) (hs : s = digV x i * pw n + cy) :
    UpAt x n (i + 1) (o.set i (s % 4294967296)) (s / 4294967296) := by
  obtain ⟨h1, h2, h3, h4, h5, h6⟩ := h
  obtain ⟨a0, a1⟩ := digV_limb hx i
  have p := pw_pos n
  have s0 : 0 ≤ s := by rw [hs]; exact Int.add_nonneg (Int.mul_nonneg a0 (Int.le_of_lt p)) h5
  have s1 : s < 4294967296 * pw n := by
    have := Int.mul_le_mul_of_nonneg_right (show digV x i ≤ 4294967295 by omega) (Int.le_of_lt p)
    omega
  refine ⟨by simp [h1], limbs_set h2 i ⟨by omega, by omega⟩, fun t ht => ?_, ?_, by omega, by omega⟩
  · rw [digV_set_ne (by omega)]; exact h3 t (by omega)
  · rw [natV_set_take _ (by omega), natV_take_dig x, pw32s]
    have e : s = 4294967296 * (s / 4294967296) + s % 4294967296 := by omega
    generalize s / 4294967296 = q at *
    generalize s % 4294967296 = r at *
    generalize pw (32 * (i : Int)) = P at *
    generalize pw n = N at *
    have k : P * (digV x i * N + cy) = P * (4294967296 * q + r) := by rw [← hs, ← e]
    rw [Int.mul_add, Int.mul_add, Int.mul_left_comm P 4294967296] at k
    rw [Int.mul_comm cy P] at h4
    rw [Int.mul_left_comm q, Int.mul_comm q P, Int.add_mul, Int.mul_assoc P]
    omega
theorem up_end {x o : List Int} {n cy : Int} (h : UpAt x n x.length o cy) (hc : Limb cy) : natV (o.set x.length cy) = natV x * pw n ∧ ∀ t ∈ o.set x.length cy, Limb t := by
  refine ⟨?_, limbs_set h.lim _ hc⟩
  have v := h.v
  rw [natV_take_all (Nat.le_refl _)] at v
  have l : x.length < o.length := by rw [h.len]; omega
  have a := natV_set_take cy l
  rw [natV_take_all (by simp [h.len])] at a
  rw [a, Int.mul_comm, ← v]
end Go.Proofs.YtmjidpkddiinaaaDoor

/-
  Package nat: bounded, Trim, Of: walked.
-/
namespace Go.Proofs.YtmjidpkddiinaaaDoor
open Go.RowKit Go.Shelf

theorem Sl.alloc {w : World} {A : Option Addr} {n c : Nat} {l : List Int} (h : Sl w w.heap.size A n c l) (o : Obj) : Sl (w.alloc o) (w.alloc o).heap.size A n c l := h.on (below_new w o)
theorem lists_one {w : World} {A : Option Addr} {n c : Nat} {l : List Int} {T : TypeId} (h : Sl w w.heap.size A n c l) (hn : n ≤ 30000) :
    Lists (w.alloc (.cells #[.slice A n c] T)) w.heap.size [(A, n, c, l)] := by
  refine ⟨by simp, fun i hi => ?_, fun i hi => ?_⟩
  · obtain rfl : i = 0 := by simpa using hi
    simp [go_sem]
  · obtain rfl : i = 0 := by simpa using hi
    exact ⟨h.alloc _, hn⟩
theorem lists_two {w : World} {A B : Option Addr} {n c m d : Nat} {l k : List Int} {T : TypeId} (h : Sl w w.heap.size A n c l) (hn : n ≤ 30000) (h' : Sl w w.heap.size B m d k) (hm : m ≤ 30000) :
    Lists (w.alloc (.cells #[.slice A n c, .slice B m d] T)) w.heap.size [(A, n, c, l), (B, m, d, k)] := by
  refine ⟨by simp, fun i hi => ?_, fun i hi => ?_⟩
  · obtain rfl | rfl : i = 0 ∨ i = 1 := by simp at hi; omega
    · simp [go_sem]
    · simp [go_sem]
  · obtain rfl | rfl : i = 0 ∨ i = 1 := by simp at hi; omega
    · exact ⟨h.alloc _, hn⟩
    · exact ⟨h'.alloc _, hm⟩
/-- A number and OK, or nil and that it is too big. -/
def BndPost (A : Option Addr) (n c : Nat) (l : List Int) (w : World) (e : Ending) (w' : World) : Prop :=
  Below w.heap.size w w' ∧ (natV l < pw 8192 → ∃ k : Nat, k ≤ n ∧ Norm (l.take k) ∧ natV (l.take k) = natV l ∧ e = .returned (.tuple #[.slice A k c, .int .i64 0])) ∧ (pw 8192 ≤ natV l → e = .returned (.tuple #[.slice none 0 0, .int .i64 2]))
set_option maxHeartbeats 1000000 in
theorem bounded_sl (A : Option Addr) (n c : Nat) (l : List Int) (w : World) (h : Sl w w.heap.size A n c l) (hn : n ≤ 30000) : Calls Tryd.prog 46 #[.slice A n c] w (BndPost A n c l w) := by
  have H := Lib.hid h
  have FT := Lib.hid (fits_any w.heap.size [(A, n, c, l)] (w.alloc (.cells #[.slice A n c] 26)) (lists_one h hn) (by simp))
  have e1 : decide (∀ x ∈ [(A, n, c, l)], natV x.2.2.2 < pw 8192) = decide (natV l < pw 8192) := by simp
  rw [e1] at FT
  clear e1 h
  by_cases g : natV l < pw 8192
  · rw [show decide (natV l < pw 8192) = true by simpa using g] at FT
    have CO := Lib.hid (core_sl A n c l _ (H.out.alloc (.cells #[.slice A n c] 26)) hn)
    have b1 := Lib.hid (below_new w (.cells #[.slice A n c] 26))
    have g := Lib.hid g
    clear H
    go_enter Tryd.func46, Tryd.ntmps46
    go_wp2_with fail
    refine FT.out.mono ?_
    rintro e w1 ⟨rfl, rfl⟩
    go_wp2_with fail
    refine CO.out.mono ?_
    rintro e w1 ⟨j, jn, nrm, ev, rfl, rfl⟩
    go_wp2
    go_ret2
    exact ⟨b1.out, fun _ => ⟨j, jn, nrm, ev, rfl⟩, fun z => by have := g.out; omega⟩
  · rw [show decide (natV l < pw 8192) = false by simpa using g] at FT
    have b1 := Lib.hid (below_new w (.cells #[.slice A n c] 26))
    have g := Lib.hid g
    clear H
    go_enter Tryd.func46, Tryd.ntmps46
    go_wp2_with fail
    refine FT.out.mono ?_
    rintro e w1 ⟨rfl, rfl⟩
    go_wp2
    go_ret2
    exact ⟨b1.out, fun z => by have := g.out; omega, fun _ => rfl⟩
/-- What Of answers. -/
theorem nof_any (v : Int) (h : Word v) (w : World) : Calls Tryd.prog 15 #[.int .u64 v] w (NatPost v w) := by
  obtain ⟨e1, e2⟩ := of_two v h
  obtain ⟨h0, h1⟩ := h
  have HO := lit_own w [v % 4294967296, v / 4294967296] 2 rfl (by omega)
  have HS : Sl (w.alloc (.cells #[.int .u32 (v % 4294967296), .int .u32 (v / 4294967296)] 66)) (w.alloc (.cells #[.int .u32 (v % 4294967296), .int .u32 (v / 4294967296)] 66)).heap.size (some ⟨w.heap.size, 0, none⟩) 2 2 [v % 4294967296, v / 4294967296] := by
    obtain ⟨A, c, e, hs, _⟩ := Sl.of_own HO e1
    cases e
    exact hs
  have CO := Lib.hid (core_sl _ 2 2 _ _ HS (by decide))
  have HS := Lib.hid HS
  have hv := Lib.hid e2
  have b1 := Lib.hid (below_new w (.cells #[.int .u32 (v % 4294967296), .int .u32 (v / 4294967296)] 66))
  clear HO e1 e2
  go_enter Tryd.func15, Tryd.ntmps15
  go_wp2_with fail
  refine CO.out.mono ?_
  rintro e w1 ⟨j, jn, nrm, ev, rfl, rfl⟩
  have fin := Lib.hid (NatPost.mk (HS.out.take jn) nrm (by rw [ev, hv.out]) (fun ad e => by cases e; exact Nat.le_refl _) b1.out)
  clear nrm ev
  go_wp2
  go_ret
  exact fin.out
end Go.Proofs.YtmjidpkddiinaaaDoor

/-
  Package nat: Add: walked.
-/
namespace Go.Proofs.YtmjidpkddiinaaaDoor
open Go.RowKit Go.Shelf

theorem wpList_mkN {w : World} {ops : Array Oper} {rest : List Oper} {o : Oper} {a : Act} {Q : Exit → Act → World → Prop} (hgd : o.guard = none) (s x : Operand) (ho : o.op = Op.makeSlice 26 s x)
    (base : Nat) (L C : Int) (n : Nat) (hs : a.eval s = .int .i64 L) (hx : a.eval x = .int .i64 C) (hL : L = (n : Int)) (hC : C = (n : Int)) (hn : n ≤ 2000000000) (hbase : base ≤ w.heap.size)
    (h : ∀ w', w'.ownsRow base 66 1 (.slice (some ⟨w.heap.size, 0, none⟩) n n) n ((List.replicate n (0 : Int)).map (Value.int .u32)) → Below base w w' → w.heap.size < w'.heap.size → wpList Tryd.prog ops Q rest (a.put o.dst (.slice (some ⟨w.heap.size, 0, none⟩) n n)) w') :
    wpList Tryd.prog ops Q (o :: rest) a w := by
  obtain ⟨i0, hi, hz0, hz1, hz2⟩ := info_parts Tryd.info71
  refine wpList_make_full w hgd s x 26 ho base 66 i0 (.int .u32 0) 1 Tryd.underlying26 hi hz0 hz1 .i64 .i64 L C n hs hx hL hC (by rw [hz2]; omega) (by unfold maxLen; omega) hbase fun w' h1 h2 => ?_
  refine h w' ?_ ((Below.refl _ _).grown h2 hbase (fun k hk => by cases hk)) (h1.lt _ rfl).2
  have e : (madeCells (Value.int .u32 0).cells (n * 1)).toList = (List.replicate n (0 : Int)).map (Value.int .u32) := by
    rw [show (Value.int .u32 0).cells = #[Value.int .u32 0] from rfl, toList_madeCells_one, List.map_replicate, Nat.mul_one]
  rw [← e]; exact h1

theorem row_heap {w : World} {base g N : Nat} {o : List Int} (h : w.ownsRow base 66 1 (.slice (some ⟨g, 0, none⟩) N N) N (o.map (Value.int .u32))) :
    base ≤ g ∧ o.length = N ∧ N ≤ maxLen ∧ w.heap[g]? = some (.cells (o.map (Value.int .u32)).toArray 66 (0, 0)) := by
  obtain ⟨h1, h2⟩ := h
  rcases h2 with ⟨e, _⟩ | ⟨g', cap, cur, e, hb, hh, c1, c2, c3, c4⟩
  · cases e
  · cases e
    refine ⟨hb, by simpa using h1, c2, ?_⟩
    rw [hh, ← c4, Nat.mul_one, List.take_of_length_le (by simp [c3])]
theorem heap_row {w : World} {base g N : Nat} {o : List Int} (hb : base ≤ g) (hl : o.length = N) (hN : N ≤ maxLen) (hh : w.heap[g]? = some (.cells (o.map (Value.int .u32)).toArray 66 (0, 0))) :
    w.ownsRow base 66 1 (.slice (some ⟨g, 0, none⟩) N N) N (o.map (Value.int .u32)) :=
  ⟨by simp [hl], .inr ⟨g, N, _, rfl, hb, hh, Nat.le_refl _, hN, by simp [hl], by rw [Nat.mul_one]; exact List.take_of_length_le (by simp [hl])⟩⟩
theorem map_splice (L cs : List Int) (off : Nat) : (splice L off cs).map (Value.int .u32) = splice (L.map (Value.int .u32)) off (cs.map (Value.int .u32)) := by
  simp [splice]
/-- 'copy' of limbs onto a row of the call's own. -/
theorem copyN_run {w : World} (base g N off dLen dCap : Nat) (old : List Int) (A : Option Addr) (m c : Nat) (l : List Int)
    (hrow : w.ownsRow base 66 1 (.slice (some ⟨g, 0, none⟩) N N) N (old.map (Value.int .u32))) (B : Nat) (hS : Sl w B A m c l) (hm : m ≤ dLen) (hoff : off + m ≤ N) :
    ∃ w', (Builtin.copy_ #[26, 26] 3 #[.slice (some ⟨g, off, none⟩) dLen dCap, .slice A m c]).run Tryd.prog w = .ok (.int .i64 (m : Int)) w' ∧
      Hid (w'.ownsRow base 66 1 (.slice (some ⟨g, 0, none⟩) N N) N ((splice old off l).map (Value.int .u32))) ∧ Below base w w' := by
  obtain ⟨hb, hl, hN, hh⟩ := row_heap hrow
  have lm : (l.map (Value.int .u32)).length = m := by rw [List.length_map, hS.len]
  have lsp : (splice old off l).length = N := by rw [length_splice _ _ _ (by rw [hS.len, hl]; exact hoff), hl]
  rcases hS.rd with h0 | ⟨b, q, rfl, hb2, hc⟩
  · subst h0
    obtain rfl : l = [] := List.eq_nil_of_length_eq_zero hS.len
    refine ⟨w, run_copy_none w 26 26 3 66 _ _ _ _ _ _ Tryd.underlying26 (by kernel_rfl) (by simp), heap_row hb lsp hN ?_, Below.refl _ _⟩
    simpa [splice] using hh
  · have hR := run_copy_row (P := Tryd.prog) w 26 26 3 66 g off dLen dCap ⟨b, q, none⟩ m c (old.map (Value.int .u32)).toArray 66 (l.map (Value.int .u32)) Tryd.underlying26 (by kernel_rfl) hh (by rw [lm]; exact (Nat.min_eq_left hm).symm) (fun j v hv => by
        obtain ⟨hj, rfl⟩ := List.getElem?_eq_some_iff.1 hv
        rw [List.length_map] at hj
        rw [Addr.add_lit, hc j hj, List.getElem_map]) (by simp only [lm, List.size_toArray, List.length_map, hl]; exact hoff) (u32_oneCell l)
    have hW := setRow_heap w g _ ((old.map (Value.int .u32)).take off ++ l.map (Value.int .u32) ++ (old.map (Value.int .u32)).drop (off + (l.map (Value.int .u32)).length)).toArray 66 (0, 0) hh
    refine ⟨w.setRow g ((old.map (Value.int .u32)).take off ++ l.map (Value.int .u32) ++ (old.map (Value.int .u32)).drop (off + (l.map (Value.int .u32)).length)).toArray, ?_, heap_row hb lsp hN ?_, below_setRow (Below.refl _ _) hb _⟩
    · rw [hR, lm]; rfl
    · rw [map_splice, hW]
      unfold splice
      rw [List.append_assoc]
theorem splice_zero (l : List Int) (k : Nat) : splice (List.replicate (l.length + k) 0) 0 l = l ++ List.replicate k 0 := by
  simp [splice, List.drop_replicate]
end Go.Proofs.YtmjidpkddiinaaaDoor

/-
  Package nat: Trim, Cmp: walked.
-/
namespace Go.Proofs.YtmjidpkddiinaaaDoor
open Go.RowKit Go.Shelf

/-- A new row of the call's own: the number, right. -/
def RowPost (v : Int) (n : Nat) (w : World) (e : Ending) (w' : World) : Prop :=
  ∃ (k : Nat) (x : List Int), k ≤ n ∧ e = .returned (.slice (some ⟨w.heap.size, 0, none⟩) k k) ∧ w'.ownsRow w.heap.size 66 1 (.slice (some ⟨w.heap.size, 0, none⟩) k k) k (x.map (Value.int .u32)) ∧ (∀ t ∈ x, Limb t) ∧ Norm x ∧ natV x = v ∧ Below w.heap.size w w'
set_option maxHeartbeats 2000000 in
theorem ntrim_row (A : Option Addr) (n c : Nat) (l : List Int) (w : World) (h : Sl w w.heap.size A n c l) (hn : n ≤ 30000) : Calls Tryd.prog 13 #[.slice A n c] w (RowPost (natV l) n w) := by
  have CO := Lib.hid (core_sl A n c l w h hn)
  have H := Lib.hid h
  clear h
  go_enter Tryd.func13, Tryd.ntmps13
  go_wp2_with fail
  refine CO.out.mono ?_
  rintro e w1 ⟨k, kn, nk, ek, rfl, rfl⟩
  have S := Lib.hid (H.out.take kn)
  have lk : (l.take k).length = k := S.out.len
  have kb : (k : Int) ≤ 30000 := by omega
  have spl := Lib.hid (splice_zero (l.take k) 0)
  rw [lk, Nat.add_zero] at spl
  have fin : Hid (∀ w2 : World, w2.ownsRow w.heap.size 66 1 (.slice (some ⟨w.heap.size, 0, none⟩) k k) k ((l.take k).map (Value.int .u32)) → Below w.heap.size w w2 → RowPost (natV l) n w (.returned (.slice (some ⟨w.heap.size, 0, none⟩) k k)) w2) := fun w2 h1 h2 => ⟨k, l.take k, kn, rfl, h1, S.out.lim, nk, ek, h2⟩
  clear H CO nk ek lk
  generalize l.take k = x at *
  go_wp2_with (at_make; go_loud (refine wpList_mkN rfl _ _ rfl w.heap.size _ _ k rfl rfl rfl rfl (by omega) (Nat.le_refl _) ?_); intro w1 hown1 hb1 hz1; obtain ⟨w2, hrun, hown2, hb2⟩ := copyN_run w.heap.size w.heap.size k 0 k k _ _ k _ x hown1 w.heap.size (S.out.below hb1) (by omega) (by omega); have hown1 := Lib.hid hown1)
  go_ret
  rw [spl.out] at hown2
  exact fin.out _ (by simpa using hown2.out) (hb1.trans hb2)
theorem row_lt {w : World} {base g N : Nat} {o : List Int} (h : w.ownsRow base 66 1 (.slice (some ⟨g, 0, none⟩) N N) N (o.map (Value.int .u32))) : g < w.heap.size := by
  have := (row_heap h).2.2.2
  rcases Nat.lt_or_ge g w.heap.size with c | c
  · exact c
  · rw [Array.getElem?_eq_none c] at this; cases this
theorem ntrim_any (A : Option Addr) (n c : Nat) (l : List Int) (w : World) (h : Sl w w.heap.size A n c l) (hn : n ≤ 30000) : Calls Tryd.prog 13 #[.slice A n c] w (NatPost (natV l) w) := by
  refine (ntrim_row A n c l w h hn).mono ?_
  rintro e w' ⟨k, x, _, rfl, h1, h2, h3, h4, h5⟩
  exact NatPost.mk (row_sl h1 h2) h3 h4 (fun ad e => by cases e; exact Nat.le_refl _) h5

set_option maxRecDepth 100000 in
set_option maxHeartbeats 2000000 in
theorem ncmp_any (A B : Option Addr) (n m c d : Nat) (l k : List Int) (w : World) (h : Sl w w.heap.size A n c l) (h' : Sl w w.heap.size B m d k) (hn : n ≤ 30000) (hm : m ≤ 30000) :
    Calls Tryd.prog 21 #[.slice A n c, .slice B m d] w fun e w' => e = .returned (.int .i64 (cmpI (natV l) (natV k))) ∧ Below w.heap.size w w' := by
  have CA := Lib.hid (core_sl A n c l w h hn)
  have CB := Lib.hid (core_sl B m d k w h' hm)
  have HA := Lib.hid h; have HB := Lib.hid h'
  obtain ⟨r, hr⟩ : ∃ r, cmpI (natV l) (natV k) = r := ⟨_, rfl⟩
  rw [hr]
  have HR := Lib.hid hr
  clear h h' hr
  go_enter Tryd.func21, Tryd.ntmps21
  go_wp2_with fail
  refine CA.out.mono ?_
  rintro e w1 ⟨n1, n1n, nk1, e1, rfl, rfl⟩
  go_wp2_with fail
  refine CB.out.mono ?_
  rintro e w1 ⟨n2, n2n, nk2, e2, rfl, rfl⟩
  have hs := HA.out.take n1n
  have hs2 := HB.out.take n2n
  have n1b : (n1 : Int) ≤ 30000 := by omega
  have n2b : (n2 : Int) ≤ 30000 := by omega
  have HR : Hid (cmpI (natV (l.take n1)) (natV (k.take n2)) = r) := by unfold Hid; rw [e1, e2]; exact HR.out
  generalize l.take n1 = l1 at *
  generalize k.take n2 = l2 at *
  have OR := Lib.hid (fun b W => order_any b W)
  clear HA HB CA CB e1 e2
  by_cases cl : n1 = n2
  · subst cl
    obtain ⟨hlen, hcap, hmax, hlim, hnil, hrd⟩ := hs
    obtain ⟨hlen2, hcap2, hmax2, hlim2, hnil2, hrd2⟩ := hs2
    unfold maxLen at hmax hmax2
    have hst := Lib.hid (fun k => @alike_cmp l1 l2 k hlim hlim2)
    have hz := Lib.hid (@alike_zero l1 l2)
    have hal := Lib.hid (alike_len (hlen.trans hlen2.symm))
    have hss := Lib.hid (fun k => @alike_step l1 l2 k)
    have HC : Hid (∀ i : Nat, i < n1 → ∃ b o b' o', A = some ⟨b, o, none⟩ ∧ B = some ⟨b', o', none⟩ ∧ w.cell? ⟨b, o + i, none⟩ = some (.int .u32 (digV l1 i)) ∧ w.cell? ⟨b', o' + i, none⟩ = some (.int .u32 (digV l2 i))) := fun i hi => by
      rcases hrd with h0 | ⟨b, o, rfl, hb2, hc⟩
      · omega
      rcases hrd2 with h0 | ⟨b', o', rfl, hb2', hc'⟩
      · omega
      exact ⟨b, o, b', o', rfl, rfl, by rw [hc i (by omega), digV_lt], by rw [hc' i (by omega), digV_lt]⟩
    have D1 := Lib.hid (digV_limb hlim)
    have D2 := Lib.hid (digV_limb hlim2)
    have HL := Lib.hid hlen
    have HL2 := Lib.hid hlen2
    clear hrd hrd2 hlen hlen2 hnil hnil2 hlim hlim2 nk1 nk2 hcap hcap2 hmax hmax2
    go_wp2
    go_loopw [26] (fun i wr => ∃ k : Nat, k ≤ n1 ∧ i = .int .i64 (k : Int) ∧ Alike l1 l2 (n1 - k) ∧ ∃ q, w.drewN q = wr) (fun i _ => n1 - (intOf i).toNat)
    case atStart => exact ⟨0, by omega, rfl, by rw [Nat.sub_zero, ← HL.out]; exact hal.out, 0, rfl⟩
    case round =>
      obtain ⟨k, hk, rfl, hA, q, rfl⟩ := hrel
      by_cases hlt : k < n1
      · obtain ⟨j, hj⟩ : ∃ j, n1 - 1 - k = j := ⟨_, rfl⟩
        have ej : (n1 : Int) - 1 - (k : Int) = (j : Int) := by omega
        have j0 : (0 : Int) ≤ (j : Int) := by omega
        have jl : (j : Int) < (n1 : Int) := by omega
        have klt : (k : Int) < (n1 : Int) := by omega
        have k0 : (0 : Int) ≤ (k : Int) := by omega
        obtain ⟨b, o, b', o', rfl, rfl, cell, cell'⟩ := HC.out j (by omega)
        rw [show n1 - k = j + 1 by omega] at hA
        have wj : IntKind.i64.wrap ((n1 : Int) - 1 - (k : Int)) = (j : Int) := by rw [ej, IntKind.wrap_i64]; omega
        obtain ⟨x0, x1⟩ := D1.out j
        obtain ⟨y0, y1⟩ := D2.out j
        have fe : Hid (digV l1 j = digV l2 j → Alike l1 l2 j) := hss.out j hA (by rw [HL.out]; omega) (by rw [HL2.out]; omega)
        have fn : Hid (digV l1 j ≠ digV l2 j → cmpI (natV l1) (natV l2) = if digV l1 j < digV l2 j then -1 else 1) := hst.out j hA (by rw [HL.out]; omega) (by rw [HL2.out]; omega)
        generalize digV l1 j = x at *
        generalize digV l2 j = y at *
        clear HC hst hss hz hal hA HL HL2 D1 D2
        by_cases cx : x = y
        · subst cx
          have fe2 : Hid (Alike l1 l2 j) := fe.out (by first | rfl | trivial)
          have t0 : (x == x) = true := beq_self_eq_true x
          clear fn fe
          go_wp2
          go_quiet (fail)
          go_wp2
          go_roundw
          case rel => exact ⟨k + 1, by omega, by go_num, by rw [show n1 - (k + 1) = j by omega]; exact fe2.out, _, rfl⟩
          case measure => simp [intOf]; omega
        · have t0 : (x == y) = false := by simpa using cx
          have ex : r = if x < y then -1 else 1 := by rw [← HR.out]; exact fn.out cx
          by_cases c : x < y
          · have fin : Hid (r = -1) := by unfold Hid; rw [ex, if_pos c]
            have OR : Hid (∀ W, Calls Tryd.prog 44 #[.bool true] W fun e w' => e = .returned (.int .i64 (-1)) ∧ w' = W) := fun W => (OR.out true W).mono fun _ _ h => ⟨h.1, h.2.symm⟩
            clear fn fe HR ex
            go_wp2
            go_quiet (fail)
            go_wp2
            go_quiet ((go_at_call 44; exact (OR.out _).mono (fun _ _ h => ⟨h.1, _, h.2⟩)))
            go_wp2
            go_ret
            exact ⟨by rw [fin.out]; rfl, by repeat (first | exact Below.refl _ _ | refine below_drewN ?_ _)⟩
          · have fin : Hid (r = 1) := by unfold Hid; rw [ex, if_neg c]
            have c2 : y ≤ x := by omega
            have c3 : decide (x < y) = false := by simpa using c
            have OR : Hid (∀ W, Calls Tryd.prog 44 #[.bool false] W fun e w' => e = .returned (.int .i64 1) ∧ w' = W) := fun W => (OR.out false W).mono fun _ _ h => ⟨h.1, h.2.symm⟩
            clear fn fe HR ex
            go_wp2
            go_quiet (fail)
            go_wp2
            go_quiet ((go_at_call 44; exact (OR.out _).mono (fun _ _ h => ⟨h.1, _, h.2⟩)))
            go_wp2
            go_ret
            exact ⟨by rw [fin.out]; rfl, by repeat (first | exact Below.refl _ _ | refine below_drewN ?_ _)⟩
      · have ek : k = n1 := by omega
        subst ek
        rw [Nat.sub_self] at hA
        have fin : Hid (r = 0) := by unfold Hid; rw [← HR.out]; exact hz.out hA
        have klt : ¬ (k : Int) < (k : Int) := by omega
        clear HC hst hss hz hal hA HL HL2 D1 D2 OR HR
        go_wp2
        go_ret
        exact ⟨by rw [fin.out]; rfl, by repeat (first | exact Below.refl _ _ | refine below_drewN ?_ _)⟩
  · have el := cmp_len hs.lim hs2.lim nk1 nk2 (by rw [hs.len, hs2.len]; exact cl)
    rw [hs.len, hs2.len, HR.out] at el
    have cb : ((n1 : Int) == (n2 : Int)) = false := by simpa using (show (n1 : Int) ≠ n2 by omega)
    by_cases c : n1 < n2
    · have c' : (n1 : Int) < (n2 : Int) := by omega
      rw [if_pos c] at el
      have fin := Lib.hid el.symm
      have OR := Lib.hid (fun W => OR.out true W)
      clear el hs hs2 nk1 nk2 HR cl c
      go_wp2_with fail
      refine (OR.out _).mono ?_
      rintro e w' ⟨rfl, rfl⟩
      go_wp2
      go_ret
      exact ⟨by rw [fin.out.symm]; rfl, Below.refl _ _⟩
    · have c' : ¬ (n1 : Int) < (n2 : Int) := by omega
      rw [if_neg c] at el
      have fin := Lib.hid el.symm
      have OR := Lib.hid (fun W => OR.out false W)
      clear el hs hs2 nk1 nk2 HR cl
      go_wp2_with fail
      refine (OR.out _).mono ?_
      rintro e w' ⟨rfl, rfl⟩
      go_wp2
      go_ret
      exact ⟨by rw [fin.out.symm]; rfl, Below.refl _ _⟩
end Go.Proofs.YtmjidpkddiinaaaDoor

/-
  math/bits.Sub32; package nat: Sub: walked.
-/
namespace Go.Proofs.YtmjidpkddiinaaaDoor
open Go.RowKit Go.Shelf

theorem top32 (n : Nat) (h : n < 4294967296) : n.testBit 31 = decide (2147483648 ≤ n) := by
  rw [Nat.testBit_eq_decide_div_mod_eq]
  congr 1
  apply propext
  constructor <;> intro h' <;> omega
theorem borrow32 (X Y D : Nat) (hx : X < 4294967296) (hy : Y < 4294967296) (hd : D < 4294967296) :
    (((4294967295 ^^^ X) &&& Y) ||| ((4294967295 ^^^ (X ^^^ Y)) &&& D)) / 2147483648 = if (X < 2147483648 ∧ 2147483648 ≤ Y) ∨ ((2147483648 ≤ X ↔ 2147483648 ≤ Y) ∧ 2147483648 ≤ D) then 1 else 0 := by
  have h1 : (4294967295 ^^^ X) &&& Y < 2 ^ 32 := Nat.and_lt_two_pow _ (by omega)
  have h2 : (4294967295 ^^^ (X ^^^ Y)) &&& D < 2 ^ 32 := Nat.and_lt_two_pow _ (by omega)
  have h3 : ((4294967295 ^^^ X) &&& Y) ||| ((4294967295 ^^^ (X ^^^ Y)) &&& D) < 2 ^ 32 := Nat.or_lt_two_pow h1 h2
  have e : (((4294967295 ^^^ X) &&& Y) ||| ((4294967295 ^^^ (X ^^^ Y)) &&& D)).testBit 31 = (((true ^^ X.testBit 31) && Y.testBit 31) || ((true ^^ (X.testBit 31 ^^ Y.testBit 31)) && D.testBit 31)) := by
    rw [Nat.testBit_or, Nat.testBit_and, Nat.testBit_and, Nat.testBit_xor, Nat.testBit_xor, Nat.testBit_xor, show (4294967295 : Nat).testBit 31 = true by decide]
  generalize ((4294967295 ^^^ X) &&& Y) ||| ((4294967295 ^^^ (X ^^^ Y)) &&& D) = N at *
  rw [top32 N (by omega), top32 X hx, top32 Y hy, top32 D hd] at e
  by_cases a : 2147483648 ≤ X <;> by_cases b : 2147483648 ≤ Y <;> by_cases c : 2147483648 ≤ D <;> simp [a, b, c] at e ⊢ <;> (try rw [if_neg (by omega)]) <;> (try rw [if_pos (by omega)]) <;> omega
theorem borrow_int {x y b d : Int} (hx : Limb x) (hy : Limb y) (b0 : 0 ≤ b) (b1 : b ≤ 1) (hd : (x - y - b) % 4294967296 = d) :
    bits .or .u32 (bits .and .u32 (bits .xor .u32 IntKind.u32.max x) y) (bits .and .u32 (bits .xor .u32 IntKind.u32.max (bits .xor .u32 x y)) d) / 2147483648 = if x - y - b < 0 then 1 else 0 := by
  obtain ⟨X, rfl⟩ := Int.eq_ofNat_of_zero_le hx.1
  obtain ⟨Y, rfl⟩ := Int.eq_ofNat_of_zero_le hy.1
  obtain ⟨D, rfl⟩ := Int.eq_ofNat_of_zero_le (show 0 ≤ d by omega)
  have h1 : X < 4294967296 := by have := hx.2; omega
  have h2 : Y < 4294967296 := by have := hy.2; omega
  have h3 : D < 4294967296 := by omega
  have hm : IntKind.u32.max = ((4294967295 : Nat) : Int) := by decide
  have x1 : 4294967295 ^^^ X < 2 ^ 32 := Nat.xor_lt_two_pow (by decide) (by omega)
  have x2 : X ^^^ Y < 2 ^ 32 := Nat.xor_lt_two_pow (by omega) (by omega)
  have x3 : 4294967295 ^^^ (X ^^^ Y) < 2 ^ 32 := Nat.xor_lt_two_pow (by decide) x2
  have a1 : (4294967295 ^^^ X) &&& Y < 2 ^ 32 := Nat.and_lt_two_pow _ (by omega)
  have a2 : (4294967295 ^^^ (X ^^^ Y)) &&& D < 2 ^ 32 := Nat.and_lt_two_pow _ (by omega)
  rw [hm, u32_xor_nat 4294967295 X (by decide) h1, u32_xor_nat X Y h1 h2, u32_xor_nat 4294967295 (X ^^^ Y) (by decide) (by omega), u32_and_nat _ Y (by omega) h2, u32_and_nat _ D (by omega) h3, u32_or_nat _ _ (by omega) (by omega)]
  have e := borrow32 X Y D h1 h2 h3
  generalize ((4294967295 ^^^ X) &&& Y) ||| ((4294967295 ^^^ (X ^^^ Y)) &&& D) = N at *
  have e2 : (N : Int) / 2147483648 = ((N / 2147483648 : Nat) : Int) := by omega
  rw [e2, e]
  by_cases c : (X : Int) - Y - b < 0
  · rw [if_pos c, if_pos (by omega)]; rfl
  · rw [if_neg c, if_neg (by omega)]; rfl
theorem sub32_any (x y b : Int) (hx : Limb x) (hy : Limb y) (b0 : 0 ≤ b) (b1 : b ≤ 1) (w : World) :
    Calls Tryd.prog 50 #[.int .u32 x, .int .u32 y, .int .u32 b] w fun e w' => e = .returned (.tuple #[.int .u32 ((x - y - b) % 4294967296), .int .u32 (if x - y - b < 0 then 1 else 0)]) ∧ w = w' := by
  obtain ⟨r, hr⟩ : ∃ r : Int, (if x - y - b < 0 then 1 else 0) = r := ⟨_, rfl⟩
  obtain ⟨d, hd⟩ : ∃ d : Int, (x - y - b) % 4294967296 = d := ⟨_, rfl⟩
  have hb := borrow_int hx hy b0 b1 hd
  rw [hr] at hb ⊢
  rw [hd]
  clear hr hx hy b0 b1
  go_enter Tryd.func50, Tryd.ntmps50
  go_wp2
  go_ret2
  exact ⟨rfl, rfl⟩
end Go.Proofs.YtmjidpkddiinaaaDoor

/-
  Package nat: Sub: walked.
-/
namespace Go.Proofs.YtmjidpkddiinaaaDoor
open Go.RowKit Go.Shelf

set_option maxRecDepth 100000 in
set_option maxHeartbeats 4000000 in
theorem nsub_any (A B : Option Addr) (n m c d : Nat) (a b : List Int) (w : World) (h : Sl w w.heap.size A n c a) (h' : Sl w w.heap.size B m d b) (hn : n ≤ 3000) (hm : m ≤ 3000) (ha : natV a < pw 8192) (hle : natV b ≤ natV a) :
    Calls Tryd.prog 25 #[.slice A n c, .slice B m d] w (NatOPost (natV a - natV b) w) := by
  have FT := Lib.hid (fits_any w.heap.size [(A, n, c, a), (B, m, d, b)] (w.alloc (.cells #[.slice A n c, .slice B m d] 26)) (lists_two h (by omega) h' (by omega)) (by simp))
  have e1 : decide (∀ x ∈ [(A, n, c, a), (B, m, d, b)], natV x.2.2.2 < pw 8192) = true := by simp; omega
  rw [e1] at FT
  have b1 := Lib.hid (below_new w (.cells #[.slice A n c, .slice B m d] 26))
  have HA := h.alloc (.cells #[.slice A n c, .slice B m d] 26)
  have HB := h'.alloc (.cells #[.slice A n c, .slice B m d] 26)
  have CM := Lib.hid (ncmp_any A B n m c d a b _ HA HB (by omega) (by omega))
  have HA := Lib.hid HA; have HB := Lib.hid HB
  have ge : Hid (¬ cmpI (natV a) (natV b) < 0) := by unfold Hid cmpI; split <;> (try split) <;> omega
  have LE := Lib.hid hle
  clear e1 h h' hle
  go_enter Tryd.func25, Tryd.ntmps25
  go_wp2_with fail
  refine FT.out.mono ?_
  rintro e w1 ⟨rfl, rfl⟩
  go_wp2_with fail
  refine CM.out.mono ?_
  rintro e w1 ⟨rfl, hb1⟩
  generalize cmpI (natV a) (natV b) = r at *
  have ger := ge.out
  have HA1 := HA.out.on hb1
  have HB1 := HB.out.on hb1
  have bb := Lib.hid (b1.out.trans (hb1.mono b1.out.size))
  clear FT CM HA HB b1 hb1
  have TR := Lib.hid (ntrim_row A n c a _ HA1 (by omega))
  have HB1 := Lib.hid HB1
  clear HA1
  go_wp2_with fail
  refine TR.out.mono ?_
  rintro e w2 ⟨N, x, xn, rfl, hown, xl, xN, xv, hb2⟩
  have HB2 := HB1.out.on hb2
  have CO := Lib.hid (core_sl B m d b w2 HB2 (by omega))
  have HB2 := Lib.hid HB2
  clear TR
  go_wp2_with fail
  refine CO.out.mono ?_
  rintro e w3 ⟨j, jm, nj, ej, rfl, rfl⟩
  have SY := Lib.hid (HB1.out.take jm)
  have LY := Lib.hid SY.out.len
  have lx : x.length = N := by have := (row_heap hown).2.1; exact this
  have jN : j ≤ N := by
    have a1 := norm_len (k := N) SY.out.lim nj (by rw [ej]; have := natV_lt xl; rw [lx, xv] at this; have := LE.out; omega)
    rw [LY.out] at a1; exact a1
  have dx := Lib.hid (digV_limb xl); have dy := Lib.hid (digV_limb SY.out.lim)
  have st0 := Lib.hid (diff_start x (b.take j) xl)
  have stp := Lib.hid (fun i o bw s => @diff_step x (b.take j) o i bw s xl SY.out.lim)
  have fin := Lib.hid (fun o bw (H : DiffAt x (b.take j) x.length o bw) => diff_end H (by rw [LY.out, lx]; exact jN) (by rw [ej, xv]; exact LE.out))
  rw [ej, xv] at fin
  have LX := Lib.hid lx
  have bb2 := Lib.hid (bb.out.trans (hb2.mono bb.out.size))
  clear HB1 HB2 CO nj ej xl xN xv lx
  generalize b.take j = y at *
  have sz := Lib.hid bb.out.size
  have Nb : (N : Int) ≤ 3000 := by omega
  have hown := Lib.hid hown
  have S32 := Lib.hid (fun X Y bw hX hY c0 c1 W => sub32_any X Y bw hX hY c0 c1 W)
  have hb2 := Lib.hid hb2
  go_wp2
  go_loopw [8, 26] (fun v ii wx => ∃ i : Nat, ∃ bw : Int, ∃ o : List Int, ii = .int .i64 (i : Int) ∧ v = .int .u32 bw ∧ i ≤ N ∧ 0 ≤ bw ∧ bw ≤ 1 ∧ wx.ownsRow w1.heap.size 66 1 (.slice (some ⟨w1.heap.size, 0, none⟩) N N) N (o.map (Value.int .u32)) ∧ Below w1.heap.size w1 wx ∧ DiffAt x y i o bw) (fun _ ii _ => N - (intOf ii).toNat)
  case atStart => exact ⟨0, 0, x, rfl, rfl, by omega, by decide, by decide, hown.out, hb2.out, st0.out⟩
  case round =>
    obtain ⟨i, bw, o, rfl, rfl, hi, c0, c1, hown, hB, hI⟩ := hrel
    clear st0
    by_cases hlt : i < N
    · have cell1 := row_cell hown i hlt
      have fr : World.frozen? _ ⟨w1.heap.size, i, none⟩ = false := hown.frozenAt i
      have ilt : (i : Int) < (N : Int) := by omega
      have i0 : (0 : Int) ≤ (i : Int) := by omega
      have ib : (i : Int) ≤ 3000 := by omega
      have stp1 := Lib.hid (stp.out i o bw (digV x i - digV y i - bw) hI (by rw [LX.out]; exact hlt) rfl)
      rw [hI.rest i (Nat.le_refl _)] at cell1
      have SU := Lib.hid (fun W => S32.out (digV x i) (digV y i) bw (dx.out i) (dy.out i) c0 c1 W)
      obtain ⟨x0, x1⟩ := dx.out i
      obtain ⟨y0, y1⟩ := dy.out i
      have Hset := Lib.hid (fun v => row_set hown i v)
      by_cases hy : i < j
      · have SYw := SY.out.below hB
        rcases SYw.rd with hz1 | ⟨b1', o1, rfl, hbb, hc1⟩
        · omega
        have cell2 := hc1 i (by rw [LY.out]; exact hy)
        rw [← digV_lt] at cell2
        have yl : (i : Int) < (j : Int) := by omega
        generalize digV x i = X at *
        generalize digV y i = Y at *
        obtain ⟨bo, hbo⟩ : ∃ bo : Int, (if X - Y - bw < 0 then 1 else 0) = bo := ⟨_, rfl⟩
        have bo01 : 0 ≤ bo ∧ bo ≤ 1 := by rw [← hbo]; split <;> omega
        rw [hbo] at SU stp1
        clear hbo hc1 SYw dx dy hI hown stp fin SY S32
        go_wp2_with (go_at_call 50; refine (SU.out _).mono ?_; rintro e w' ⟨rfl, rfl⟩)
        go_roundw
        case rel => exact ⟨i + 1, _, _, by go_num, rfl, by omega, bo01.1, bo01.2, Hset.out _, hB.setCell (Nat.le_refl _) _, stp1.out⟩
        case measure => simp [intOf]; omega
      · have yl : ¬ (i : Int) < (j : Int) := by omega
        have Yz : digV y i = 0 := digV_ge (by rw [LY.out]; omega)
        rw [Yz, Int.sub_zero] at stp1 SU
        generalize digV x i = X at *
        obtain ⟨bo, hbo⟩ : ∃ bo : Int, (if X - bw < 0 then 1 else 0) = bo := ⟨_, rfl⟩
        have bo01 : 0 ≤ bo ∧ bo ≤ 1 := by rw [← hbo]; split <;> omega
        rw [hbo] at SU stp1
        clear hbo dx dy hI hown stp fin SY S32 Yz y0 y1
        go_wp2_with (go_at_call 50; refine (SU.out _).mono ?_; rintro e w' ⟨rfl, rfl⟩)
        go_roundw
        case rel => exact ⟨i + 1, _, _, by go_num, rfl, by omega, bo01.1, bo01.2, Hset.out _, hB.setCell (Nat.le_refl _) _, stp1.out⟩
        case measure => simp [intOf]; omega
    · obtain rfl : i = N := by omega
      have ev := fin.out o bw (by rw [LX.out]; exact hI)
      have sl := row_sl hown hI.lim
      have CO := Lib.hid (core_sl _ i i o _ sl (by omega))
      have FIN : Hid (∀ k2 : Nat, k2 ≤ i → Norm (o.take k2) → natV (o.take k2) = natV o → NatOPost (natV a - natV b) w (.returned (.tuple #[.slice (some ⟨w1.heap.size, 0, none⟩) k2 i, .int .i64 0])) _) := fun k2 h1 h2 h3 => NatOPost.mk (sl.take h1) h2 (by rw [h3, ev]) (fun ad e => by cases e; exact sz.out) (bb.out.trans (hB.mono sz.out))
      have hge : ¬ (i : Int) < (i : Int) := by omega
      clear dx dy hI hown stp fin SY S32 ev sl
      go_wp2_with fail
      refine CO.out.mono ?_
      rintro e w3 ⟨k2, h1, h2, h3, rfl, rfl⟩
      have q := Lib.hid (FIN.out k2 h1 h2 h3)
      clear h2 h3 FIN
      go_wp2
      go_ret2
      exact q.out
end Go.Proofs.YtmjidpkddiinaaaDoor

/-
  Package nat: shiftedUp, Shl: walked.
-/
namespace Go.Proofs.YtmjidpkddiinaaaDoor
open Go.RowKit Go.Shelf

theorem or_low {x n cy : Int} (hx : Limb x) (n0 : 0 ≤ n) (n1 : n ≤ 31) (c0 : 0 ≤ cy) (c1 : cy < pw n) : bits .or .u64 cy (x * pw n) = cy + x * pw n := by
  have p := pw_pos n
  have pm := pw_mono n0 n1
  rw [show pw 31 = 2147483648 from rfl] at pm
  obtain ⟨x0, x1⟩ := hx
  have b : x * pw n ≤ 4294967295 * 2147483648 := Int.mul_le_mul (by omega) pm (by omega) (by decide)
  have b0 : 0 ≤ x * pw n := Int.mul_nonneg x0 (by omega)
  exact or_nat (j := n.toNat) b0 (by omega) c0 c1 (by omega) (by show x * pw n % pw n = 0; exact Int.mul_emod_left _ _)
set_option maxRecDepth 100000 in
set_option maxHeartbeats 4000000 in
theorem nup_row (A : Option Addr) (n c : Nat) (x : List Int) (s : Int) (w : World) (h : Sl w w.heap.size A n c x) (hn : n ≤ 3000) (s0 : 0 ≤ s) (s1 : s ≤ 31) :
    Calls Tryd.prog 56 #[.slice A n c, .int .i64 s] w fun e w' => ∃ o : List Int, e = .returned (.slice (some ⟨w.heap.size, 0, none⟩) (n + 1) (n + 1)) ∧ w'.ownsRow w.heap.size 66 1 (.slice (some ⟨w.heap.size, 0, none⟩) (n + 1) (n + 1)) (n + 1) (o.map (Value.int .u32)) ∧ (∀ t ∈ o, Limb t) ∧ natV o = natV x * pw s ∧ Below w.heap.size w w' := by
  have HX := Lib.hid h
  have lx := h.len
  obtain ⟨N, hN⟩ : ∃ N, n + 1 = N := ⟨_, rfl⟩
  have eN : (n : Int) + 1 = (N : Int) := by omega
  have EN := Lib.hid eN
  have st0 := Lib.hid (up_start x s)
  have stp := Lib.hid (fun i o cy v => @up_step x o s i cy v h.lim)
  have fin := Lib.hid (fun o cy (H : UpAt x s x.length o cy) hc => up_end H hc)
  have LX := Lib.hid lx
  have dx := Lib.hid (digV_limb h.lim)
  rw [lx, hN] at st0
  rw [lx] at fin
  have bN : N ≤ 3001 := by omega
  have nb : (n : Int) ≤ 3000 := by omega
  rw [hN]
  have NN := Lib.hid hN
  have pm := pw_mono s0 s1
  have PM : Hid (pw s ≤ 2147483648) := pm
  have PP := Lib.hid (pw_pos s)
  clear h lx hN eN pm
  go_enter Tryd.func56, Tryd.ntmps56
  go_wp2_with (at_make; go_loud (refine wpList_mkN rfl _ _ rfl w.heap.size _ _ N rfl rfl EN.out EN.out (by omega) (Nat.le_refl _) ?_); intro w1 hown1 hb1 hz1)
  go_loopw [6, 14] (fun v ii wx => ∃ i : Nat, ∃ cy : Int, ∃ o : List Int, ii = .int .i64 (i : Int) ∧ v = .int .u64 cy ∧ i ≤ n ∧ wx.ownsRow w.heap.size 66 1 (.slice (some ⟨w.heap.size, 0, none⟩) N N) N (o.map (Value.int .u32)) ∧ Below w.heap.size w wx ∧ UpAt x s i o cy) (fun _ ii _ => n - (intOf ii).toNat)
  case atStart => exact ⟨0, 0, _, rfl, rfl, by omega, hown1, hb1, st0.out⟩
  case round =>
    obtain ⟨i, cy, o, rfl, rfl, hi, hown, hB, hI⟩ := hrel
    clear st0 hown1 hb1 hz1
    have c0 := hI.c0
    have c1 := hI.c1
    by_cases hlt : i < n
    · have HXw := HX.out.below hB
      rcases HXw.rd with hz1 | ⟨b1', o1, rfl, hbb, hc1⟩
      · omega
      have cell1 := hc1 i (by rw [LX.out]; exact hlt)
      rw [← digV_lt] at cell1
      have cell2 := row_cell hown i (by have := NN.out; omega)
      have fr : World.frozen? _ ⟨w.heap.size, i, none⟩ = false := hown.frozenAt i
      have ilt : (i : Int) < (n : Int) := by omega
      have iN : (i : Int) < (N : Int) := by have := NN.out; omega
      have i0 : (0 : Int) ≤ (i : Int) := by omega
      have stp1 := Lib.hid (stp.out i o cy (digV x i * pw s + cy) hI (by rw [LX.out]; exact hlt) rfl)
      rw [hI.zero i (Nat.le_refl _)] at cell2
      have HO := or_low (dx.out i) s0 s1 c0 c1
      have Hset := Lib.hid (fun v => row_set hown i v)
      obtain ⟨x0, x1⟩ := dx.out i
      obtain ⟨P, hP⟩ : ∃ P, digV x i * pw s = P := ⟨_, rfl⟩
      have P0 : 0 ≤ P := by rw [← hP]; exact Int.mul_nonneg x0 (Int.le_of_lt PP.out)
      have P1 : P ≤ 4294967295 * 2147483648 := by rw [← hP]; exact Int.mul_le_mul (by omega) PM.out (Int.le_of_lt PP.out) (by decide)
      rw [hP] at HO stp1
      have hx : digV x i * 2 ^ s.toNat = P := by rw [pw_eq]; exact hP
      have cb : cy ≤ 2147483648 := by have := PM.out; omega
      generalize digV x i = X at *
      have w1 : IntKind.u64.wrap P = P := by rw [IntKind.wrap_u64]; omega
      have e1 : Hid (P + cy = cy + P) := Int.add_comm _ _
      clear hP hc1 HXw dx hI hown stp fin c1 PP PM
      go_wp2
      go_roundw
      case rel => exact ⟨i + 1, _, _, by go_num, rfl, by omega, Hset.out _, hB.setCell (Nat.le_refl _) _, by rw [← e1.out]; exact stp1.out⟩
      case measure => simp [intOf]; omega
    · obtain rfl : i = n := by omega
      have hL : Limb cy := ⟨c0, by have := PM.out; omega⟩
      have f := Lib.hid (fin.out o cy hI hL)
      have cell := row_cell hown i (by have := NN.out; omega)
      have fr : World.frozen? _ ⟨w.heap.size, i, none⟩ = false := hown.frozenAt i
      have Hset := Lib.hid (fun v => row_set hown i v)
      have iN : (i : Int) < (N : Int) := by have := NN.out; omega
      have i0 : (0 : Int) ≤ (i : Int) := by omega
      have cb : cy < 4294967296 := hL.2
      have hge : ¬ (i : Int) < (i : Int) := by omega
      clear dx hI hown stp fin PP PM c1 hL
      go_wp2
      go_ret
      exact ⟨rfl, _, Hset.out cy, f.out.2, f.out.1, hB.setCell (Nat.le_refl _) _⟩
end Go.Proofs.YtmjidpkddiinaaaDoor

/-
  Package nat: Shl: walked.
-/
namespace Go.Proofs.YtmjidpkddiinaaaDoor
open Go.RowKit Go.Shelf

theorem natlen_sl (A : Option Addr) (n c : Nat) (l : List Int) (w : World) (h : Sl w w.heap.size A n c l) (hn : n ≤ 30000) :
    Calls Tryd.prog 19 #[.slice A n c] w fun e w' => ∃ k : Nat, Bits (natV l) k ∧ (k : Int) ≤ 32 * (n : Int) ∧ e = .returned (.int .i64 (k : Int)) ∧ w = w' := by
  have hm := h.max
  have hcap := h.cap
  unfold maxLen at hm
  rcases h.rd with h0 | ⟨b, o, rfl, hb, hc⟩
  · subst h0
    have e0 : l = [] := List.eq_nil_of_length_eq_zero h.len
    subst e0
    refine (natlen_nil A c w (by omega) (fun e => (h.nil e).2)).mono ?_
    rintro e w' ⟨rfl, rfl⟩
    exact ⟨0, ⟨by decide, by decide, fun z => absurd rfl z⟩, by decide, rfl, rfl⟩
  · have t := natlen_l l b o c w ⟨hb, hc⟩ h.lim (by rw [h.len]; exact hcap) (by omega) (by rw [h.len]; exact hn)
    rw [h.len] at t
    exact t
theorem natlen_zero (A : Option Addr) (n c : Nat) (l : List Int) (w : World) (h : Sl w w.heap.size A n c l) (hn : n ≤ 30000) (hz : natV l = 0) :
    Calls Tryd.prog 19 #[.slice A n c] w fun e w' => e = .returned (.int .i64 0) ∧ w = w' := by
  have CO := Lib.hid (core_sl A n c l w h hn)
  have hl := Lib.hid h.lim
  have HZ := Lib.hid hz
  have LN := Lib.hid h.len
  clear h hz
  go_enter Tryd.func19, Tryd.ntmps19
  go_wp2_with fail
  refine CO.out.mono ?_
  rintro e w1 ⟨k, kn, nk, ek, rfl, rfl⟩
  obtain rfl : k = 0 := by
    have := norm_zero (limbs_take hl.out k) nk (by rw [ek]; exact HZ.out)
    have := congrArg List.length this
    rw [List.length_take, LN.out] at this
    simp at this; omega
  clear nk ek
  go_wp2
  go_ret
  exact ⟨rfl, rfl⟩
theorem splice_up (N j : Nat) (l : List Int) (h : l.length + j = N) : splice (List.replicate N 0) j l = List.replicate j 0 ++ l := by
  unfold splice
  have e1 : (List.replicate N (0 : Int)).take j = List.replicate j 0 := by rw [List.take_replicate]; congr 1; omega
  have e2 : (List.replicate N (0 : Int)).drop (j + l.length) = [] := List.drop_eq_nil_of_le (by simp; omega)
  rw [e1, e2, List.append_nil]
theorem natV_up (j : Nat) (l : List Int) : natV (List.replicate j 0 ++ l) = pw (32 * (j : Int)) * natV l := by
  rw [natV_append, natV_rep, List.length_replicate, Int.zero_add]
set_option maxRecDepth 100000 in
set_option maxHeartbeats 4000000 in
theorem nshl_any (A : Option Addr) (n c : Nat) (a : List Int) (s : Int) (w : World) (h : Sl w w.heap.size A n c a) (hn : n ≤ 2000) (s0 : 0 ≤ s) (hb : natV a * pw s < pw 8192) :
    Calls Tryd.prog 31 #[.slice A n c, .int .i64 s] w (NatOPost (natV a * pw s) w) := by
  have LN := Lib.hid (natlen_sl A n c a w h (by omega))
  have CO := Lib.hid (core_sl A n c a w h (by omega))
  have H := Lib.hid h
  have s0' : ¬ s < 0 := by omega
  have HB := Lib.hid hb
  clear h hb
  by_cases z : natV a = 0
  · have fin : Hid (NatOPost (natV a * pw s) w (.returned (.tuple #[.slice none 0 0, .int .i64 0])) w) := by
      unfold Hid; rw [z, Int.zero_mul]
      exact NatOPost.mk (Sl.nil_ _ _) norm_nil rfl (fun _ e => by cases e) (Below.refl _ _)
    have LZ := Lib.hid (natlen_zero A n c a w H.out (by omega) z)
    go_enter Tryd.func31, Tryd.ntmps31
    go_wp2_with fail
    refine LZ.out.mono ?_
    rintro e w1 ⟨rfl, rfl⟩
    go_wp2
    go_ret2
    exact fin.out
  · have a0 := natV_nonneg H.out.lim
    have zz := Lib.hid (show natV a ≠ 0 from z)
    obtain ⟨j, hj⟩ : ∃ j : Nat, s / 32 = (j : Int) := ⟨(s / 32).toNat, by omega⟩
    obtain ⟨t, ht⟩ : ∃ t : Int, s % 32 = t := ⟨_, rfl⟩
    have t0 : 0 ≤ t := by omega
    have t1 : t ≤ 31 := by omega
    have es : Hid (pw (32 * (j : Int)) * (natV a * pw t) = natV a * pw s) := by
      unfold Hid
      rw [← Int.mul_assoc, ← ht]; exact shl_eq hj
    clear z
    go_enter Tryd.func31, Tryd.ntmps31
    go_wp2_with fail
    refine LN.out.mono ?_
    rintro e w1 ⟨k, hk, kb, rfl, rfl⟩
    have k1 : 1 ≤ k := by
      rcases Nat.eq_zero_or_pos k with c | c
      · subst c
        have := hk.lt
        rw [show pw ((0 : Nat) : Int) = 1 from rfl] at this
        have := zz.out; omega
      · exact c
    have ks : (k : Int) + s ≤ 8192 := by
      have g := hk.ge zz.out
      have p := pw_pos s
      have q := Int.mul_le_mul_of_nonneg_right g (Int.le_of_lt p)
      rw [← pw_add _ _ (by omega) s0, Int.mul_assoc] at q
      have r : pw ((k : Int) + s) < pw 8193 := by
        have : pw 8193 = 2 * pw 8192 := pw_half 8193 (by decide)
        have := HB.out; omega
      have := pw_inj_le (by decide) r
      omega
    have kz : ((k : Int) == 0) = false := by simp; omega
    clear hk LN
    go_wp2_with fail
    refine CO.out.mono ?_
    rintro e w1 ⟨m, mn, nm, em, rfl, rfl⟩
    have UP := Lib.hid (nup_row A m c (a.take m) t w (H.out.take mn) (by omega) t0 t1)
    rw [em] at UP
    have mb : m ≤ 2000 := by omega
    clear CO H nm em
    go_wp2_with fail
    refine UP.out.mono ?_
    rintro e w1 ⟨o, rfl, hown, ol, ov, hb1⟩
    have ob := Lib.hid (row_sl hown ol)
    obtain ⟨N, hN⟩ : ∃ N, m + 1 + j = N := ⟨_, rfl⟩
    have eN : (m : Int) + 1 + (j : Int) = (N : Int) := by omega
    have EN := Lib.hid eN
    have NN := Lib.hid hN
    have jb : j ≤ 256 := by omega
    have bN : N ≤ 3000 := by omega
    have spl := Lib.hid (splice_up N j o (by rw [ob.out.len]; omega))
    have res : Hid (natV (List.replicate j 0 ++ o) = natV a * pw s ∧ ∀ t ∈ List.replicate j 0 ++ o, Limb t) := ⟨by rw [natV_up, ov]; exact es.out, fun t ht => by
      rcases List.mem_append.1 ht with h | h
      · exact limbs_rep j t h
      · exact ol t h⟩
    have hb1 := Lib.hid hb1
    clear UP hown ol ov hN eN es
    have jN : (j : Int) < (N : Int) := by have := EN.out; omega
    have jN' : j < N := by omega
    go_wp2_with (at_make; go_loud (refine wpList_mkN rfl _ _ rfl w1.heap.size _ _ N rfl rfl EN.out EN.out (by omega) (Nat.le_refl _) ?_); intro w2 hown2 hb2 hz2; obtain ⟨w3, hrun, hown3, hb3⟩ := copyN_run w1.heap.size w1.heap.size N j (N - j) (N - j) _ (some ⟨w.heap.size, 0, none⟩) (m + 1) (m + 1) o hown2 w1.heap.size (ob.out.below hb2) (by have := NN.out; omega) (by have := NN.out; omega); have hown2 := Lib.hid hown2; have hb3 := Lib.hid hb3; have hown3 := Lib.hid hown3.out)
    have hown4 : w3.ownsRow w1.heap.size 66 1 (.slice (some ⟨w1.heap.size, 0, none⟩) N N) N ((List.replicate j 0 ++ o).map (Value.int .u32)) := by rw [← spl.out]; exact hown3.out
    have sl := row_sl hown4 res.out.2
    have CO := Lib.hid (core_sl _ N N _ w3 sl (by omega))
    have b12 : Below w1.heap.size w1 w3 := hb2.trans hb3.out
    have bb : Below w.heap.size w w3 := hb1.out.trans (b12.mono hb1.out.size)
    have FIN : Hid (∀ k2 : Nat, k2 ≤ N → Norm ((List.replicate j 0 ++ o).take k2) → natV ((List.replicate j 0 ++ o).take k2) = natV (List.replicate j 0 ++ o) → NatOPost (natV a * pw s) w (.returned (.tuple #[.slice (some ⟨w1.heap.size, 0, none⟩) k2 N, .int .i64 0])) w3) := fun k2 h1 h2 h3 => NatOPost.mk (sl.take h1) h2 (by rw [h3, res.out.1]) (fun ad e => by cases e; exact hb1.out.size) bb
    clear hown4 sl b12 bb res spl hown3 hrun hb2 hb3 ob
    refine CO.out.mono ?_
    rintro e w4 ⟨k2, h1, h2, h3, rfl, rfl⟩
    have q := Lib.hid (FIN.out k2 h1 h2 h3)
    clear h2 h3 FIN CO
    go_wp2
    go_ret2
    exact q.out
end Go.Proofs.YtmjidpkddiinaaaDoor

/-
  Rows that are changed in place: plain facts.
-/
namespace Go.Proofs.YtmjidpkddiinaaaDoor
open Go.RowKit Go.Shelf

/-- i limbs of d, times by, taken off r from its k-th limb on. -/
structure TakeAt (d : List Int) (by_ : Int) (r : List Int) (k i : Nat) (o : List Int) (cy bw : Int) : Prop where
  len : o.length = r.length
  lim : ∀ t ∈ o, Limb t
  out : ∀ t : Nat, (t < k ∨ k + i ≤ t) → digV o t = digV r t
  v : natV o = natV r + pw (32 * (k : Int)) * ((cy + bw) * pw (32 * (i : Int)) - by_ * natV (d.take i))
  c0 : 0 ≤ cy
  c1 : cy < 4294967296
  b0 : 0 ≤ bw
  b1 : bw ≤ 1
theorem take_start (d : List Int) (by_ : Int) (r : List Int) (k : Nat) (hr : ∀ t ∈ r, Limb t) : TakeAt d by_ r k 0 r 0 0 :=
  ⟨rfl, hr, fun _ _ => rfl, by simp [natV], by decide, by decide, by decide, by decide⟩
theorem pwki (k i : Nat) : pw (32 * ((k + i : Nat) : Int)) = pw (32 * (k : Int)) * pw (32 * (i : Int)) := by
  rw [← pw_add _ _ (by omega) (by omega)]; congr 1; omega
theorem take_step {d r o : List Int} {by_ cy bw s z : Int} {k i : Nat} (hd : ∀ t ∈ d, Limb t) (hb : Limb by_) (hr : ∀ t ∈ r, Limb t) (h : TakeAt d by_ r k i o cy bw) (hi : k + i < r.length) (hs : s = cy + digV d i * by_) (hz : z = digV r (k + i) - s % 4294967296 - bw) :
    TakeAt d by_ r k (i + 1) (o.set (k + i) (z % 4294967296)) (s / 4294967296) (if z < 0 then 1 else 0) := by
  obtain ⟨h1, h2, h3, h4, h5, h6, h7, h8⟩ := h
  obtain ⟨a0, a1⟩ := digV_limb hd i
  obtain ⟨r0, r1⟩ := digV_limb hr (k + i)
  obtain ⟨m0, m1⟩ := mul_limb (digV_limb hd i) hb
  refine ⟨by simp [h1], limbs_set h2 _ ⟨by omega, by omega⟩, fun t ht => ?_, ?_, by omega, by omega, by split <;> omega, by split <;> omega⟩
  · rw [digV_set_ne (by omega)]; exact h3 t (by omega)
  · rw [natV_set _ (by omega), ← digV_lt (by omega), h3 _ (.inr (Nat.le_refl _)), natV_take_dig, pwki, pw32s, h4]
    obtain ⟨q, hq⟩ : ∃ q : Int, (if z < 0 then 1 else 0) = q := ⟨_, rfl⟩
    have e : z % 4294967296 = z + 4294967296 * q := by rw [← hq]; split <;> omega
    have e2 : s = 4294967296 * (s / 4294967296) + s % 4294967296 := by omega
    rw [hq, e]
    generalize s / 4294967296 = S at *
    generalize s % 4294967296 = T at *
    generalize pw (32 * (k : Int)) = K at *
    generalize pw (32 * (i : Int)) = I at *
    have g1 : z + 4294967296 * q - digV r (k + i) = 4294967296 * q - T - bw := by omega
    rw [g1]
    have g2 : (S + q) * (4294967296 * I) - by_ * (natV (d.take i) + I * digV d i) = ((cy + bw) * I - by_ * natV (d.take i)) + I * (4294967296 * q - T - bw) := by
      have e3 : I * (4294967296 * S + T) = I * (cy + digV d i * by_) := by rw [← hs, ← e2]
      rw [Int.mul_add, Int.mul_add, Int.mul_left_comm I 4294967296] at e3
      rw [Int.mul_add by_, Int.mul_left_comm by_ I, Int.mul_comm by_ (digV d i), Int.add_mul, Int.add_mul, Int.mul_sub, Int.mul_sub, Int.mul_left_comm S, Int.mul_left_comm q, Int.mul_comm S I, Int.mul_comm q I, Int.mul_left_comm I 4294967296 q, Int.mul_comm cy I, Int.mul_comm bw I]
      omega
    rw [g2, Int.mul_add K, Int.mul_assoc K I]
    omega
theorem take_end {d r o : List Int} {by_ cy bw z : Int} {k n : Nat} (hr : ∀ t ∈ r, Limb t) (h : TakeAt d by_ r k n o cy bw) (hn : n = d.length) (hi : k + n < r.length) (hz : z = digV r (k + n) - cy - bw) :
    natV (o.set (k + n) (z % 4294967296)) = natV r - pw (32 * (k : Int)) * (by_ * natV d) + (if z < 0 then 1 else 0) * pw (32 * ((k + n + 1 : Nat) : Int)) := by
  obtain ⟨h1, h2, h3, h4, h5, h6, h7, h8⟩ := h
  obtain ⟨r0, r1⟩ := digV_limb hr (k + n)
  rw [natV_set _ (by omega), ← digV_lt (by omega), h3 _ (.inr (Nat.le_refl _)), h4, pw32s, pwki, natV_take_all (by omega)]
  obtain ⟨q, hq⟩ : ∃ q : Int, (if z < 0 then 1 else 0) = q := ⟨_, rfl⟩
  have e : z % 4294967296 = z + 4294967296 * q := by rw [← hq]; split <;> omega
  rw [hq, e]
  generalize pw (32 * (k : Int)) = K at *
  generalize pw (32 * (n : Int)) = I at *
  have g1 : z + 4294967296 * q - digV r (k + n) = 4294967296 * q - cy - bw := by omega
  rw [g1, Int.mul_sub K, Int.mul_assoc K I, Int.mul_sub I, Int.mul_sub I, Int.mul_sub K, Int.mul_sub K, Int.add_mul, Int.mul_add K, Int.mul_comm cy I, Int.mul_comm bw I, Int.mul_left_comm I 4294967296 q, Int.mul_left_comm K 4294967296, Int.mul_left_comm q, Int.mul_comm q, Int.mul_assoc K I q]
  omega

/-- i limbs of d added to r from its k-th limb on. -/
structure BackAt (d : List Int) (r : List Int) (k i : Nat) (o : List Int) (cy : Int) : Prop where
  len : o.length = r.length
  lim : ∀ t ∈ o, Limb t
  out : ∀ t : Nat, (t < k ∨ k + i ≤ t) → digV o t = digV r t
  v : natV o = natV r + pw (32 * (k : Int)) * (natV (d.take i) - cy * pw (32 * (i : Int)))
  c0 : 0 ≤ cy
  c1 : cy ≤ 1
theorem back_start (d : List Int) (r : List Int) (k : Nat) (hr : ∀ t ∈ r, Limb t) : BackAt d r k 0 r 0 :=
  ⟨rfl, hr, fun _ _ => rfl, by simp [natV], by decide, by decide⟩
theorem back_step {d r o : List Int} {cy s : Int} {k i : Nat} (hd : ∀ t ∈ d, Limb t) (hr : ∀ t ∈ r, Limb t) (h : BackAt d r k i o cy) (hi : k + i < r.length) (hs : s = digV r (k + i) + digV d i + cy) :
    BackAt d r k (i + 1) (o.set (k + i) (s % 4294967296)) (s / 4294967296) := by
  obtain ⟨h1, h2, h3, h4, h5, h6⟩ := h
  obtain ⟨a0, a1⟩ := digV_limb hd i
  obtain ⟨r0, r1⟩ := digV_limb hr (k + i)
  refine ⟨by simp [h1], limbs_set h2 _ ⟨by omega, by omega⟩, fun t ht => ?_, ?_, by omega, by omega⟩
  · rw [digV_set_ne (by omega)]; exact h3 t (by omega)
  · rw [natV_set _ (by omega), ← digV_lt (by omega), h3 _ (.inr (Nat.le_refl _)), natV_take_dig, pwki, pw32s, h4]
    have e2 : s = 4294967296 * (s / 4294967296) + s % 4294967296 := by omega
    generalize s / 4294967296 = S at *
    generalize s % 4294967296 = T at *
    generalize pw (32 * (k : Int)) = K at *
    generalize pw (32 * (i : Int)) = I at *
    have g1 : T - digV r (k + i) = digV d i + cy - 4294967296 * S := by omega
    rw [g1, Int.mul_assoc K I, ← Int.add_sub_cancel (natV r) (K * 0), Int.mul_zero, Int.add_zero, Int.sub_zero, Int.add_assoc, ← Int.mul_add]
    congr 2
    rw [Int.mul_sub, Int.mul_add, Int.mul_comm cy I, Int.mul_left_comm S, Int.mul_comm S I, Int.mul_left_comm I 4294967296]
    omega
theorem back_end {d r o : List Int} {cy z : Int} {k n : Nat} (hr : ∀ t ∈ r, Limb t) (h : BackAt d r k n o cy) (hn : n = d.length) (hi : k + n < r.length) (hz : z = digV r (k + n) + cy) :
    natV (o.set (k + n) (z % 4294967296)) = natV r + pw (32 * (k : Int)) * natV d - (z / 4294967296) * pw (32 * ((k + n + 1 : Nat) : Int)) := by
  obtain ⟨h1, h2, h3, h4, h5, h6⟩ := h
  obtain ⟨r0, r1⟩ := digV_limb hr (k + n)
  rw [natV_set _ (by omega), ← digV_lt (by omega), h3 _ (.inr (Nat.le_refl _)), h4, pw32s, pwki, natV_take_all (by omega)]
  have e : z % 4294967296 = z - 4294967296 * (z / 4294967296) := by omega
  rw [e]
  generalize z / 4294967296 = q at *
  generalize pw (32 * (k : Int)) = K at *
  generalize pw (32 * (n : Int)) = I at *
  have g1 : z - 4294967296 * q - digV r (k + n) = cy - 4294967296 * q := by omega
  rw [g1, Int.mul_sub K, Int.mul_assoc K I, Int.mul_sub I, Int.mul_sub K, Int.mul_comm cy I, Int.mul_left_comm I 4294967296 q, Int.mul_left_comm K 4294967296, Int.mul_left_comm q, Int.mul_comm q, Int.mul_assoc K I q]
  omega

/-- i limbs shifted down by n places, in their place. -/
structure DownAt (a : List Int) (n : Int) (i : Nat) (o : List Int) : Prop where
  len : o.length = a.length
  lim : ∀ t ∈ o, Limb t
  rest : ∀ t : Nat, i ≤ t → digV o t = digV a t
  v : natV (o.take i) = natV a / pw n % pw (32 * (i : Int))
theorem down_start (a : List Int) (n : Int) (ha : ∀ t ∈ a, Limb t) : DownAt a n 0 a :=
  ⟨rfl, ha, fun _ _ => rfl, by rw [List.take_zero, show pw (32 * ((0 : Nat) : Int)) = 1 from rfl, Int.emod_one]; rfl⟩
theorem mod_limb (V : Int) (i : Nat) : V % pw (32 * ((i + 1 : Nat) : Int)) = V % pw (32 * (i : Int)) + pw (32 * (i : Int)) * (V / pw (32 * (i : Int)) % 4294967296) := by
  rw [pw32s, Int.mul_comm]
  have p := pw_pos (32 * (i : Int))
  generalize pw (32 * (i : Int)) = P at *
  have e1 := Int.mul_ediv_add_emod V P
  have e2 := Int.mul_ediv_add_emod V (P * 4294967296)
  have e3 : V / (P * 4294967296) = V / P / 4294967296 := (Int.ediv_ediv_of_nonneg (by omega)).symm
  rw [e3, Int.mul_assoc] at e2
  have e4 : V / P % 4294967296 = V / P - 4294967296 * (V / P / 4294967296) := by omega
  rw [e4, Int.mul_sub]
  omega
theorem dig_shift {a : List Int} {n : Int} (ha : ∀ t ∈ a, Limb t) (n0 : 0 ≤ n) (n1 : n ≤ 31) (i : Nat) :
    natV a / pw n / pw (32 * (i : Int)) % 4294967296 = (digV a i + 4294967296 * digV a (i + 1)) / pw n % 4294967296 := by
  have p := pw_pos n
  have pi := pw_pos (32 * (i : Int))
  rw [Int.ediv_ediv_of_nonneg (by omega), Int.mul_comm (pw n), ← Int.ediv_ediv_of_nonneg (by omega)]
  have d0 := natV_dig ha i
  have d1 := natV_dig ha (i + 1)
  rw [pw32s, Int.mul_comm, ← Int.ediv_ediv_of_nonneg (by omega)] at d1
  generalize natV a / pw (32 * (i : Int)) = U at *
  rw [← d0, ← d1]
  have e : U = (U % 4294967296 + 4294967296 * (U / 4294967296 % 4294967296)) + pw n * (4294967296 * (pw (32 - n) * (U / 18446744073709551616))) := by
    have : pw n * (4294967296 * (pw (32 - n) * (U / 18446744073709551616))) = 18446744073709551616 * (U / 18446744073709551616) := by
      rw [Int.mul_left_comm, ← Int.mul_assoc (pw n), ← pw_add _ _ n0 (by omega), show n + (32 - n) = 32 by omega, show pw 32 = 4294967296 from rfl, ← Int.mul_assoc]
      rfl
    rw [this]; omega
  conv => lhs; rw [e]
  rw [Int.add_mul_ediv_left _ _ (by omega), Int.add_mul_emod_self_left]
theorem down_step {a o : List Int} {n s : Int} {i : Nat} (ha : ∀ t ∈ a, Limb t) (n0 : 0 ≤ n) (n1 : n ≤ 31) (h : DownAt a n i o) (hi : i < a.length) (hs : s = (digV a i + 4294967296 * digV a (i + 1)) / pw n) :
    DownAt a n (i + 1) (o.set i (s % 4294967296)) := by
  obtain ⟨h1, h2, h3, h4⟩ := h
  refine ⟨by simp [h1], limbs_set h2 _ ⟨by omega, by omega⟩, fun t ht => by rw [digV_set_ne (by omega)]; exact h3 t (by omega), ?_⟩
  rw [natV_set_take _ (by omega), h4, mod_limb, dig_shift ha n0 n1, hs]
theorem down_end {a o : List Int} {n : Int} (ha : ∀ t ∈ a, Limb t) (h : DownAt a n a.length o) : natV o = natV a / pw n := by
  have v := h.v
  rw [natV_take_all (by rw [h.len]; omega)] at v
  rw [v]
  have l := natV_lt ha
  have z := natV_nonneg ha
  have p := pw_pos n
  exact Int.emod_eq_of_lt (Int.ediv_nonneg z (by omega)) (Int.lt_of_le_of_lt (Int.ediv_le_self _ z) l)

/-- A row is divided by one limb, from its end: the limbs from the j-th on are done. -/
structure ShortAt (a : List Int) (by_ : Int) (j : Nat) (o : List Int) (rest : Int) : Prop where
  len : o.length = a.length
  lim : ∀ t ∈ o, Limb t
  low : ∀ t : Nat, t < j → digV o t = digV a t
  v : (natV o - natV (a.take j)) * by_ + rest * pw (32 * (j : Int)) + natV (a.take j) = natV a
  r0 : 0 ≤ rest
  r1 : rest < by_
theorem short_start {a : List Int} {by_ : Int} {m : Nat} (ha : ∀ t ∈ a, Limb t) (hb : 0 < by_) (hz : natV (a.take m) = natV a) : ShortAt a by_ m a 0 :=
  ⟨rfl, ha, fun _ _ => rfl, by rw [hz]; simp, by decide, hb⟩
theorem short_step {a o : List Int} {by_ rest s : Int} {j : Nat} (ha : ∀ t ∈ a, Limb t) (hb : Limb by_) (h : ShortAt a by_ (j + 1) o rest) (hj : j < a.length) (hs : s = rest * 4294967296 + digV a j) :
    ShortAt a by_ j (o.set j (s / by_)) (s % by_) ∧ Limb (s / by_) ∧ 0 ≤ s ∧ s < 18446744073709551616 := by
  obtain ⟨h1, h2, h3, h4, h5, h6⟩ := h
  obtain ⟨a0, a1⟩ := digV_limb ha j
  obtain ⟨b0, b1⟩ := hb
  have s0 : 0 ≤ s := by omega
  have L : Limb (s / by_) := ⟨Int.ediv_nonneg s0 (by omega), by
    apply Int.ediv_lt_of_lt_mul (by omega)
    have : (rest + 1) * 4294967296 ≤ by_ * 4294967296 := Int.mul_le_mul_of_nonneg_right (by omega) (by decide)
    omega⟩
  refine ⟨⟨by simp [h1], limbs_set h2 _ L, fun t ht => by rw [digV_set_ne (by omega)]; exact h3 t (by omega), ?_, Int.emod_nonneg _ (by omega), Int.emod_lt_of_pos _ (by omega)⟩, L, s0, by omega⟩
  rw [natV_set _ (by omega), ← digV_lt (by omega), h3 _ (by omega)]
  rw [natV_take_dig, pw32s] at h4
  rw [← h4]
  have e := Int.mul_ediv_add_emod s by_
  generalize s / by_ = Q at *
  generalize s % by_ = R at *
  generalize pw (32 * (j : Int)) = P at *
  generalize natV (a.take j) = T at *
  generalize digV a j = D at *
  have k : P * (by_ * Q + R) = P * (rest * 4294967296 + D) := by rw [e, hs]
  rw [Int.mul_add, Int.mul_add, Int.mul_left_comm P by_ Q] at k
  have e1 : (natV o + P * (Q - D) - T) * by_ = (natV o - (T + P * D)) * by_ + by_ * (P * Q) := by
    rw [Int.mul_comm by_ (P * Q), ← Int.add_mul, Int.mul_sub P]; congr 1; omega
  rw [e1, Int.mul_comm R P, Int.mul_left_comm rest, Int.mul_comm 4294967296]
  have e2 : P * (rest * 4294967296) = rest * P * 4294967296 := by rw [← Int.mul_assoc, Int.mul_comm P]
  omega
theorem short_end {a o : List Int} {by_ rest : Int} (h : ShortAt a by_ 0 o rest) : natV o = natV a / by_ ∧ rest = natV a % by_ := by
  have v := h.v
  simp only [List.take_zero, show natV [] = 0 from rfl, Int.sub_zero, Int.add_zero, show pw (32 * ((0 : Nat) : Int)) = 1 from rfl, Int.mul_one] at v
  have p : 0 < by_ := Int.lt_of_le_of_lt h.r0 h.r1
  rw [← v, Int.add_comm, Int.add_mul_ediv_right _ _ (by omega), Int.ediv_eq_zero_of_lt h.r0 h.r1, Int.add_mul_emod_self_right, Int.emod_eq_of_lt h.r0 h.r1]
  exact ⟨by omega, rfl⟩
end Go.Proofs.YtmjidpkddiinaaaDoor

/-
  Long division, limb by limb: what a guess is worth: plain facts.
-/
namespace Go.Proofs.YtmjidpkddiinaaaDoor
open Go.RowKit Go.Shelf

/-- A window of a number beside a divisor. -/
structure Knuth (V W v1 v2 v0 top u2 w0 P : Int) : Prop where
  p : 0 < P
  hV : V = (v1 * 4294967296 + v2) * P + v0
  hW : W = (top * 4294967296 + u2) * P + w0
  a0 : 0 ≤ v0
  a1 : v0 < P
  b0 : 0 ≤ w0
  b1 : w0 < P
  c0 : 0 ≤ v2
  c1 : v2 < 4294967296
  d0 : 0 ≤ u2
  d1 : u2 < 4294967296
  e0 : 1 ≤ v1
  f0 : 0 ≤ top
theorem knuth_pos {V W v1 v2 v0 top u2 w0 P : Int} (h : Knuth V W v1 v2 v0 top u2 w0 P) : 0 < V ∧ 4294967296 * P ≤ V := by
  obtain ⟨p, hV, hW, a0, a1, b0, b1, c0, c1, d0, d1, e0, f0⟩ := h
  have k : 4294967296 * P ≤ (v1 * 4294967296 + v2) * P := Int.mul_le_mul_of_nonneg_right (by omega) (by omega)
  omega
theorem knuth_up {V W v1 v2 v0 top u2 w0 P q : Int} (h : Knuth V W v1 v2 v0 top u2 w0 P) (hq : q * V ≤ W) (q0 : 0 ≤ q) : q ≤ top / v1 := by
  obtain ⟨p, hV, hW, a0, a1, b0, b1, c0, c1, d0, d1, e0, f0⟩ := h
  rw [Int.le_ediv_iff_mul_le (by omega)]
  rcases Int.lt_or_le top (q * v1) with c | c
  · exfalso
    have k1 : (top + 1) * 4294967296 * P ≤ q * v1 * 4294967296 * P := Int.mul_le_mul_of_nonneg_right (by omega) (by omega)
    have k2 : q * v1 * 4294967296 * P ≤ q * V := by
      rw [hV]
      have e : q * ((v1 * 4294967296 + v2) * P + v0) = q * v1 * 4294967296 * P + (q * (v2 * P) + q * v0) := by
        rw [Int.add_mul, Int.mul_add, Int.mul_add, Int.mul_assoc q v1, Int.mul_assoc q (v1 * 4294967296), Int.add_assoc]
      have n1 : 0 ≤ q * (v2 * P) := Int.mul_nonneg q0 (Int.mul_nonneg c0 (by omega))
      have n2 : 0 ≤ q * v0 := Int.mul_nonneg q0 a0
      rw [e]; omega
    have k3 : W < (top + 1) * 4294967296 * P := by
      have : (top * 4294967296 + u2 + 1) * P ≤ (top + 1) * 4294967296 * P := Int.mul_le_mul_of_nonneg_right (by omega) (by omega)
      rw [Int.add_mul (top * 4294967296 + u2) 1 P] at this
      omega
    omega
  · exact c
theorem knuth_down {V W v1 v2 v0 top u2 w0 P g l q : Int} (h : Knuth V W v1 v2 v0 top u2 w0 P) (hg : g * v1 + l = top) (hc : l * 4294967296 + u2 < g * v2) (g0 : 0 ≤ g) (hq : q * V ≤ W) : q ≤ g - 1 := by
  have vp := (knuth_pos h).1
  obtain ⟨p, hV, hW, a0, a1, b0, b1, c0, c1, d0, d1, e0, f0⟩ := h
  rcases Int.lt_or_le (g - 1) q with c | c
  · exfalso
    have k1 : g * V ≤ q * V := Int.mul_le_mul_of_nonneg_right (by omega) (by omega)
    have k2 : W < g * V := by
      have e : g * V = ((g * v1) * 4294967296 + g * v2) * P + g * v0 := by
        rw [hV, Int.mul_add, ← Int.mul_assoc, Int.mul_add, ← Int.mul_assoc]
      have n2 : 0 ≤ g * v0 := Int.mul_nonneg g0 a0
      have k : (top * 4294967296 + u2 + 1) * P ≤ ((g * v1) * 4294967296 + g * v2) * P := Int.mul_le_mul_of_nonneg_right (by omega) (by omega)
      rw [Int.add_mul (top * 4294967296 + u2) 1 P] at k
      rw [e]; omega
    omega
  · exact c
theorem knuth_near {V W v1 v2 v0 top u2 w0 P g l : Int} (h : Knuth V W v1 v2 v0 top u2 w0 P) (hg : g * v1 + l = top) (hc : g * v2 ≤ l * 4294967296 + u2) (_g0 : 0 ≤ g) (g1 : g ≤ 4294967296) : g - 1 ≤ W / V := by
  have vp := knuth_pos h
  obtain ⟨p, hV, hW, a0, a1, b0, b1, c0, c1, d0, d1, e0, f0⟩ := h
  rw [Int.le_ediv_iff_mul_le vp.1]
  have e : g * V = ((g * v1) * 4294967296 + g * v2) * P + g * v0 := by
    rw [hV, Int.mul_add, ← Int.mul_assoc, Int.mul_add, ← Int.mul_assoc]
  have k : ((g * v1) * 4294967296 + g * v2) * P ≤ (top * 4294967296 + u2) * P := Int.mul_le_mul_of_nonneg_right (by omega) (by omega)
  have k2 : g * v0 ≤ 4294967296 * P := Int.mul_le_mul g1 (by omega) a0 (by decide)
  rw [Int.sub_mul, Int.one_mul]
  omega
theorem knuth_far {V W v1 v2 v0 top u2 w0 P g l : Int} (h : Knuth V W v1 v2 v0 top u2 w0 P) (hg : g * v1 + l = top) (hl : 4294967296 ≤ l) (ht : top ≤ v1 * 4294967296 + 4294967295) (g0 : 0 ≤ g) : g < 4294967296 ∧ g ≤ W / V := by
  have vp := knuth_pos h
  obtain ⟨p, hV, hW, a0, a1, b0, b1, c0, c1, d0, d1, e0, f0⟩ := h
  have gl : g < 4294967296 := by
    rcases Int.lt_or_le g 4294967296 with c | c
    · exact c
    · have : 4294967296 * v1 ≤ g * v1 := Int.mul_le_mul_of_nonneg_right c (by omega)
      omega
  refine ⟨gl, ?_⟩
  rw [Int.le_ediv_iff_mul_le vp.1]
  have e : g * V = ((g * v1) * 4294967296 + g * v2) * P + g * v0 := by
    rw [hV, Int.mul_add, ← Int.mul_assoc, Int.mul_add, ← Int.mul_assoc]
  have k0 : g * (v2 + 1) ≤ 4294967296 * 4294967296 := Int.mul_le_mul (by omega) (by omega) (by omega) (by decide)
  have k1 : g * v0 ≤ g * P := Int.mul_le_mul_of_nonneg_left (by omega) g0
  have k : ((g * v1) * 4294967296 + g * v2 + g) * P ≤ (top * 4294967296 + u2) * P := Int.mul_le_mul_of_nonneg_right (by rw [Int.mul_add, Int.mul_one] at k0; omega) (by omega)
  rw [Int.add_mul _ g P] at k
  omega
theorem knuth_lt {V W : Int} (hv : 0 < V) (h : W < 4294967296 * V) : W / V < 4294967296 := Int.ediv_lt_of_lt_mul hv h
end Go.Proofs.YtmjidpkddiinaaaDoor

/-
  Package nat: Add: walked.
-/
namespace Go.Proofs.YtmjidpkddiinaaaDoor
open Go.RowKit Go.Shelf

set_option maxRecDepth 100000 in
set_option maxHeartbeats 4000000 in
theorem nadd_any (A B : Option Addr) (n m c d : Nat) (a b : List Int) (w : World) (h : Sl w w.heap.size A n c a) (h' : Sl w w.heap.size B m d b) (hn : n ≤ 3000) (hm : m ≤ 3000) (ha : natV a < pw 8192) (hb : natV b < pw 8192) :
    Calls Tryd.prog 23 #[.slice A n c, .slice B m d] w (NatRPost (overE (natV a + natV b)) (overV (natV a + natV b)) w) := by
  have FT := Lib.hid (fits_any w.heap.size [(A, n, c, a), (B, m, d, b)] (w.alloc (.cells #[.slice A n c, .slice B m d] 26)) (lists_two h (by omega) h' (by omega)) (by simp))
  have e1 : decide (∀ x ∈ [(A, n, c, a), (B, m, d, b)], natV x.2.2.2 < pw 8192) = true := by simp; exact ⟨ha, hb⟩
  rw [e1] at FT
  have CA := Lib.hid (core_sl A n c a _ (h.alloc (.cells #[.slice A n c, .slice B m d] 26)) (by omega))
  have CB := Lib.hid (core_sl B m d b _ (h'.alloc (.cells #[.slice A n c, .slice B m d] 26)) (by omega))
  have b1 := Lib.hid (below_new w (.cells #[.slice A n c, .slice B m d] 26))
  have HA := Lib.hid (h.alloc (.cells #[.slice A n c, .slice B m d] 26))
  have HB := Lib.hid (h'.alloc (.cells #[.slice A n c, .slice B m d] 26))
  clear e1 h h'
  go_enter Tryd.func23, Tryd.ntmps23
  go_wp2_with fail
  refine FT.out.mono ?_
  rintro e w1 ⟨rfl, rfl⟩
  go_wp2_with fail
  refine CA.out.mono ?_
  rintro e w1 ⟨k, kn, nk, ek, rfl, rfl⟩
  go_wp2_with fail
  refine CB.out.mono ?_
  rintro e w1 ⟨j, jm, nj, ej, rfl, rfl⟩
  have SA := Lib.hid (HA.out.take kn)
  have SB := Lib.hid (HB.out.take jm)
  have la : (a.take k).length = k := SA.out.len
  have lb : (b.take j).length = j := SB.out.len
  have res : Hid (∀ (A2 : Option Addr) (n2 c2 : Nat) (l2 : List Int) (w2 : World), Sl w2 w2.heap.size A2 n2 c2 l2 → Norm l2 → natV l2 = natV (a.take k) + natV (b.take j) → natV l2 < pw 8192 → Fresh w.heap.size A2 → Below w.heap.size w w2 → NatRPost (overE (natV a + natV b)) (overV (natV a + natV b)) w (.returned (.tuple #[.slice A2 n2 c2, .int .i64 0])) w2) := fun A2 n2 c2 l2 w2 h1 h2 h3 h0 h4 h5 => by
    have e : natV l2 = natV a + natV b := by rw [h3, ek, ej]
    rw [e] at h0
    rw [(over_ok h0).1, (over_ok h0).2]
    exact NatRPost.mk h1 h2 e h4 h5
  have bad : Hid (∀ (w2 : World), pw 8192 ≤ natV (a.take k) + natV (b.take j) → Below w.heap.size w w2 → NatRPost (overE (natV a + natV b)) (overV (natV a + natV b)) w (.returned (.tuple #[.slice none 0 0, .int .i64 2])) w2) := fun w2 h0 h5 => by
    rw [ek, ej] at h0
    rw [(over_no h0).1, (over_no h0).2]
    exact NatRPost.nil h5
  generalize w.alloc (.cells #[.slice A n c, .slice B m d] 26) = W at *
  clear HA HB FT CA CB
  by_cases c1 : k < j
  · have c2 : (k : Int) < (j : Int) := by omega
    obtain ⟨N, hN⟩ : ∃ N, j + 1 = N := ⟨_, rfl⟩
    have eN : (j : Int) + 1 = (N : Int) := by omega
    have EN := Lib.hid eN
    have bN : N ≤ 3001 := by omega
    have dx := Lib.hid (digV_limb SB.out.lim); have dy := Lib.hid (digV_limb SA.out.lim)
    have st0 := Lib.hid (sum2_start (b.take j) (a.take k) SB.out.lim N (by rw [lb]; exact hN))
    have stp := Lib.hid (fun i o cy s => @sum2_step (b.take j) (a.take k) o N i cy s SB.out.lim SA.out.lim)
    have fin := Lib.hid (fun o cy (H : SumAt2 (b.take j) (a.take k) N N o cy) => sum2_end SB.out.lim SA.out.lim H (by rw [lb]; exact hN) (by rw [lb, la]; omega))
    have spl := Lib.hid (splice_zero (b.take j) 1)
    rw [lb, hN] at spl
    have LY := Lib.hid la
    have res : Hid (∀ (A2 : Option Addr) (n2 c2 : Nat) (l2 : List Int) (w2 : World), Sl w2 w2.heap.size A2 n2 c2 l2 → Norm l2 → natV l2 = natV (b.take j) + natV (a.take k) → natV l2 < pw 8192 → Fresh w.heap.size A2 → Below w.heap.size w w2 → NatRPost (overE (natV a + natV b)) (overV (natV a + natV b)) w (.returned (.tuple #[.slice A2 n2 c2, .int .i64 0])) w2) := fun A2 n2 c2 l2 w2 h1 h2 h3 h0 h4 h5 => res.out A2 n2 c2 l2 w2 h1 h2 (by rw [h3]; omega) h0 h4 h5
    have bad : Hid (∀ (w2 : World), pw 8192 ≤ natV (b.take j) + natV (a.take k) → Below w.heap.size w w2 → NatRPost (overE (natV a + natV b)) (overV (natV a + natV b)) w (.returned (.tuple #[.slice none 0 0, .int .i64 2])) w2) := fun w2 h0 h5 => bad.out w2 (by omega) h5
    have SX := Lib.hid SB.out; have SY := Lib.hid SA.out
    clear nk nj ek ej la lb SA SB
    generalize b.take j = x at *
    generalize a.take k = y at *
    have klt : (j : Int) ≤ 3000 := by omega
    have jlt : (k : Int) ≤ (j : Int) := by omega
    have wsz := Lib.hid b1.out.size
    have NN := Lib.hid hN
    clear hN eN
    go_wp2_with (at_make; go_loud (refine wpList_mkN rfl _ _ rfl W.heap.size _ _ N rfl rfl EN.out EN.out (by omega) (Nat.le_refl _) ?_); intro w1 hown1 hb1 hz1; obtain ⟨w2, hrun, hown2, hb2⟩ := copyN_run W.heap.size W.heap.size N 0 N N _ _ j _ x hown1 W.heap.size (SX.out.below hb1) (by have := NN.out; omega) (by have := NN.out; omega); have hown1 := Lib.hid hown1)
    have hown2 := hown2.out
    rw [spl.out] at hown2
    have hb2 := hb1.trans hb2
    have hz2 : W.heap.size < w2.heap.size := by have := (row_heap hown2).2.2.2; rcases Nat.lt_or_ge W.heap.size w2.heap.size with h | h; exact h; rw [Array.getElem?_eq_none h] at this; cases this
    clear hown1 hb1 hz1 spl SX
    have hown2 := Lib.hid hown2
    go_wp2
    have hb2 := Lib.hid hb2
    go_loopw [9, 36] (fun v ii wx => ∃ i : Nat, ∃ cy : Int, ∃ o : List Int, ii = .int .i64 (i : Int) ∧ v = .int .u64 cy ∧ i ≤ N ∧ 0 ≤ cy ∧ cy ≤ 1 ∧ wx.ownsRow W.heap.size 66 1 (.slice (some ⟨W.heap.size, 0, none⟩) N N) N (o.map (Value.int .u32)) ∧ Below W.heap.size W wx ∧ W.heap.size < wx.heap.size ∧ SumAt2 x y N i o cy) (fun _ ii _ => N - (intOf ii).toNat)
    case atStart => exact ⟨0, 0, _, rfl, rfl, by omega, by decide, by decide, hown2.out, hb2.out, hz2, st0.out⟩
    case round =>
      obtain ⟨i, cy, o, rfl, rfl, hi, c0, c1', hown, hB, hz, hI⟩ := hrel
      clear hown2 hb2 hz2 st0
      by_cases hlt : i < N
      · have cell1 := row_cell hown i hlt
        have fr : World.frozen? _ ⟨W.heap.size, i, none⟩ = false := hown.frozenAt i
        have ilt : (i : Int) < (N : Int) := by omega
        have i0 : (0 : Int) ≤ (i : Int) := by omega
        have ib : (i : Int) ≤ 3001 := by omega
        have stp1 := Lib.hid (stp.out i o cy (digV x i + digV y i + cy) hI hlt rfl)
        rw [hI.rest i (Nat.le_refl _)] at cell1
        obtain ⟨x0, x1⟩ := dx.out i
        obtain ⟨y0, y1⟩ := dy.out i
        have Hset := Lib.hid (fun v => row_set hown i v)
        by_cases hy : i < k
        · have SYw := SY.out.below hB
          rcases SYw.rd with hz1 | ⟨b1', o1, rfl, hbb, hc1⟩
          · omega
          have cell2 := hc1 i (by rw [LY.out]; exact hy)
          rw [← digV_lt] at cell2
          have yl : (i : Int) < (k : Int) := by omega
          generalize digV x i = X at *
          generalize digV y i = Y at *
          have w1 : IntKind.u64.wrap (cy + X) = cy + X := by rw [IntKind.wrap_u64]; omega
          have w2 : IntKind.u64.wrap (cy + X + Y) = cy + X + Y := by rw [IntKind.wrap_u64]; omega
          clear hc1 SYw dx dy hI hown stp fin res bad SY
          go_wp2
          go_roundw
          case rel => exact ⟨i + 1, _, _, by go_num, rfl, by omega, by omega, by omega, Hset.out _, hB.setCell (Nat.le_refl _) _, by simpa [World.setCell] using hz, by
            have e := stp1.out
            rw [show X + Y + cy = cy + X + Y by omega] at e
            exact e⟩
          case measure => simp [intOf]; omega
        · have yl : ¬ (i : Int) < (k : Int) := by omega
          have Yz : digV y i = 0 := digV_ge (by rw [LY.out]; omega)
          rw [Yz] at stp1
          generalize digV x i = X at *
          have w1 : IntKind.u64.wrap (cy + X) = cy + X := by rw [IntKind.wrap_u64]; omega
          clear dx dy hI hown stp fin res bad SY Yz y0 y1
          go_wp2
          go_roundw
          case rel => exact ⟨i + 1, _, _, by go_num, rfl, by omega, by omega, by omega, Hset.out _, hB.setCell (Nat.le_refl _) _, by simpa [World.setCell] using hz, by
            have e := stp1.out
            rw [show X + 0 + cy = cy + X by omega] at e
            exact e⟩
          case measure => simp [intOf]; omega
      · obtain rfl : i = N := by omega
        have ev := fin.out o cy hI
        have lim := hI.lim
        have BD := Lib.hid (bounded_sl _ i i o _ (row_sl hown lim) (by omega))
        have FIN : Hid (∀ (k2 : Nat) (w3 : World), k2 ≤ i → Norm (o.take k2) → natV (o.take k2) = natV o → natV o < pw 8192 → Below _ _ w3 → _) := fun k2 w3 h1 h2 h3 h0 h4 => res.out (some ⟨W.heap.size, 0, none⟩) k2 i (o.take k2) w3 (((row_sl hown lim).take h1).on h4) h2 (by rw [h3, ev]) (by rw [h3]; exact h0) (fun ad e => by cases e; exact wsz.out) ((b1.out.trans (hB.mono wsz.out)).trans (h4.mono (Nat.le_trans wsz.out (Nat.le_of_lt hz))))
        have BAD : Hid (∀ (w3 : World), pw 8192 ≤ natV o → Below _ _ w3 → _) := fun w3 h0 h4 => bad.out w3 (by rw [← ev]; exact h0) ((b1.out.trans (hB.mono wsz.out)).trans (h4.mono (Nat.le_trans wsz.out (Nat.le_of_lt hz))))
        have hge : ¬ (i : Int) < (i : Int) := by omega
        clear dx dy hI hown stp fin res bad SY lim ev
        go_wp2_with fail
        refine BD.out.mono ?_
        rintro e w3 ⟨hb3, hy, hn3⟩
        rcases Int.lt_or_le (natV o) (pw 8192) with ov | ov
        · obtain ⟨k2, h1, h2, h3, rfl⟩ := hy ov
          have q := Lib.hid (FIN.out k2 w3 h1 h2 h3 ov hb3)
          clear h2 h3 hb3 FIN BAD ov hy hn3
          go_wp2
          go_ret2
          exact q.out
        · obtain rfl := hn3 ov
          have q := Lib.hid (BAD.out w3 ov hb3)
          clear hb3 FIN BAD ov hy hn3
          go_wp2
          go_ret2
          exact q.out
  · have c2 : ¬ (k : Int) < (j : Int) := by omega
    obtain ⟨N, hN⟩ : ∃ N, k + 1 = N := ⟨_, rfl⟩
    have eN : (k : Int) + 1 = (N : Int) := by omega
    have EN := Lib.hid eN
    have bN : N ≤ 3001 := by omega
    have dx := Lib.hid (digV_limb SA.out.lim); have dy := Lib.hid (digV_limb SB.out.lim)
    have st0 := Lib.hid (sum2_start (a.take k) (b.take j) SA.out.lim N (by rw [la]; exact hN))
    have stp := Lib.hid (fun i o cy s => @sum2_step (a.take k) (b.take j) o N i cy s SA.out.lim SB.out.lim)
    have fin := Lib.hid (fun o cy (H : SumAt2 (a.take k) (b.take j) N N o cy) => sum2_end SA.out.lim SB.out.lim H (by rw [la]; exact hN) (by rw [la, lb]; omega))
    have spl := Lib.hid (splice_zero (a.take k) 1)
    rw [la, hN] at spl
    have LY := Lib.hid lb
    have SX := Lib.hid SA.out; have SY := Lib.hid SB.out
    clear nk nj ek ej la lb SA SB
    generalize a.take k = x at *
    generalize b.take j = y at *
    have klt : (k : Int) ≤ 3000 := by omega
    have jlt : (j : Int) ≤ (k : Int) := by omega
    have wsz := Lib.hid b1.out.size
    have NN := Lib.hid hN
    clear hN eN
    go_wp2_with (at_make; go_loud (refine wpList_mkN rfl _ _ rfl W.heap.size _ _ N rfl rfl EN.out EN.out (by omega) (Nat.le_refl _) ?_); intro w1 hown1 hb1 hz1; obtain ⟨w2, hrun, hown2, hb2⟩ := copyN_run W.heap.size W.heap.size N 0 N N _ _ k _ x hown1 W.heap.size (SX.out.below hb1) (by have := NN.out; omega) (by have := NN.out; omega); have hown1 := Lib.hid hown1)
    have hown2 := hown2.out
    rw [spl.out] at hown2
    have hb2 := hb1.trans hb2
    have hz2 : W.heap.size < w2.heap.size := by have := (row_heap hown2).2.2.2; rcases Nat.lt_or_ge W.heap.size w2.heap.size with h | h; exact h; rw [Array.getElem?_eq_none h] at this; cases this
    clear hown1 hb1 hz1 spl SX
    have hown2 := Lib.hid hown2
    go_wp2
    have hb2 := Lib.hid hb2
    go_loopw [9, 36] (fun v ii wx => ∃ i : Nat, ∃ cy : Int, ∃ o : List Int, ii = .int .i64 (i : Int) ∧ v = .int .u64 cy ∧ i ≤ N ∧ 0 ≤ cy ∧ cy ≤ 1 ∧ wx.ownsRow W.heap.size 66 1 (.slice (some ⟨W.heap.size, 0, none⟩) N N) N (o.map (Value.int .u32)) ∧ Below W.heap.size W wx ∧ W.heap.size < wx.heap.size ∧ SumAt2 x y N i o cy) (fun _ ii _ => N - (intOf ii).toNat)
    case atStart => exact ⟨0, 0, _, rfl, rfl, by omega, by decide, by decide, hown2.out, hb2.out, hz2, st0.out⟩
    case round =>
      obtain ⟨i, cy, o, rfl, rfl, hi, c0, c1', hown, hB, hz, hI⟩ := hrel
      clear hown2 hb2 hz2 st0
      by_cases hlt : i < N
      · have cell1 := row_cell hown i hlt
        have fr : World.frozen? _ ⟨W.heap.size, i, none⟩ = false := hown.frozenAt i
        have ilt : (i : Int) < (N : Int) := by omega
        have i0 : (0 : Int) ≤ (i : Int) := by omega
        have ib : (i : Int) ≤ 3001 := by omega
        have stp1 := Lib.hid (stp.out i o cy (digV x i + digV y i + cy) hI hlt rfl)
        rw [hI.rest i (Nat.le_refl _)] at cell1
        obtain ⟨x0, x1⟩ := dx.out i
        obtain ⟨y0, y1⟩ := dy.out i
        have Hset := Lib.hid (fun v => row_set hown i v)
        by_cases hy : i < j
        · have SYw := SY.out.below hB
          rcases SYw.rd with hz1 | ⟨b1', o1, rfl, hbb, hc1⟩
          · omega
          have cell2 := hc1 i (by rw [LY.out]; exact hy)
          rw [← digV_lt] at cell2
          have yl : (i : Int) < (j : Int) := by omega
          generalize digV x i = X at *
          generalize digV y i = Y at *
          have w1 : IntKind.u64.wrap (cy + X) = cy + X := by rw [IntKind.wrap_u64]; omega
          have w2 : IntKind.u64.wrap (cy + X + Y) = cy + X + Y := by rw [IntKind.wrap_u64]; omega
          clear hc1 SYw dx dy hI hown stp fin res bad SY
          go_wp2
          go_roundw
          case rel => exact ⟨i + 1, _, _, by go_num, rfl, by omega, by omega, by omega, Hset.out _, hB.setCell (Nat.le_refl _) _, by simpa [World.setCell] using hz, by
            have e := stp1.out
            rw [show X + Y + cy = cy + X + Y by omega] at e
            exact e⟩
          case measure => simp [intOf]; omega
        · have yl : ¬ (i : Int) < (j : Int) := by omega
          have Yz : digV y i = 0 := digV_ge (by rw [LY.out]; omega)
          rw [Yz] at stp1
          generalize digV x i = X at *
          have w1 : IntKind.u64.wrap (cy + X) = cy + X := by rw [IntKind.wrap_u64]; omega
          clear dx dy hI hown stp fin res bad SY Yz y0 y1
          go_wp2
          go_roundw
          case rel => exact ⟨i + 1, _, _, by go_num, rfl, by omega, by omega, by omega, Hset.out _, hB.setCell (Nat.le_refl _) _, by simpa [World.setCell] using hz, by
            have e := stp1.out
            rw [show X + 0 + cy = cy + X by omega] at e
            exact e⟩
          case measure => simp [intOf]; omega
      · obtain rfl : i = N := by omega
        have ev := fin.out o cy hI
        have lim := hI.lim
        have BD := Lib.hid (bounded_sl _ i i o _ (row_sl hown lim) (by omega))
        have FIN : Hid (∀ (k2 : Nat) (w3 : World), k2 ≤ i → Norm (o.take k2) → natV (o.take k2) = natV o → natV o < pw 8192 → Below _ _ w3 → _) := fun k2 w3 h1 h2 h3 h0 h4 => res.out (some ⟨W.heap.size, 0, none⟩) k2 i (o.take k2) w3 (((row_sl hown lim).take h1).on h4) h2 (by rw [h3, ev]) (by rw [h3]; exact h0) (fun ad e => by cases e; exact wsz.out) ((b1.out.trans (hB.mono wsz.out)).trans (h4.mono (Nat.le_trans wsz.out (Nat.le_of_lt hz))))
        have BAD : Hid (∀ (w3 : World), pw 8192 ≤ natV o → Below _ _ w3 → _) := fun w3 h0 h4 => bad.out w3 (by rw [← ev]; exact h0) ((b1.out.trans (hB.mono wsz.out)).trans (h4.mono (Nat.le_trans wsz.out (Nat.le_of_lt hz))))
        have hge : ¬ (i : Int) < (i : Int) := by omega
        clear dx dy hI hown stp fin res bad SY lim ev
        go_wp2_with fail
        refine BD.out.mono ?_
        rintro e w3 ⟨hb3, hy, hn3⟩
        rcases Int.lt_or_le (natV o) (pw 8192) with ov | ov
        · obtain ⟨k2, h1, h2, h3, rfl⟩ := hy ov
          have q := Lib.hid (FIN.out k2 w3 h1 h2 h3 ov hb3)
          clear h2 h3 hb3 FIN BAD ov hy hn3
          go_wp2
          go_ret2
          exact q.out
        · obtain rfl := hn3 ov
          have q := Lib.hid (BAD.out w3 ov hb3)
          clear hb3 FIN BAD ov hy hn3
          go_wp2
          go_ret2
          exact q.out
end Go.Proofs.YtmjidpkddiinaaaDoor

