/-
  The document's naturals: Len, Cmp.
-/
import Derived.Test.YtomeidbigofnaaaL1
namespace Go.Proofs.Ytomeidbigofnaaa
open Go.RowKit Go.Shelf

theorem NatPost.on {v v' : Int} {w w1 : World} {e : Ending} {w2 : World} (h : NatPost v w1 e w2) (hb : Below w.heap.size w w1) (hv : v = v') : NatPost v' w e w2 := by
  obtain ⟨A, n, c, l, rfl, hs, hn, rfl, fr, hb2⟩ := h
  exact ⟨A, n, c, l, rfl, hs, hn, hv, fr.mono hb.size, hb.trans (hb2.mono hb.size)⟩

theorem below_drewN {B : Nat} {a w : World} (h : Below B a w) (n : Nat) : Below B a (w.drewN n) := ⟨h.os, h.tape, h.output, h.size, h.block⟩
/-- n is how many bits v has. -/
structure LenIs (v : Int) (n : Int) : Prop where
  n0 : 0 ≤ n
  v0 : 0 ≤ v
  z : v = 0 → n = 0
  lt : v < pw n
  ge : v ≠ 0 → pw n ≤ 2 * v
def NLenPost (v : Int) (w : World) (e : Ending) (w' : World) : Prop := ∃ n : Int, LenIs v n ∧ e = .returned (.int .i64 n) ∧ Below w.heap.size w w'

/-- j halvings of a top limb x. -/
structure HalfAt (x j y : Int) : Prop where
  j0 : 0 ≤ j
  j1 : j ≤ 32
  y : y = x / pw j
  last : j = 0 ∨ pw (j - 1) ≤ x
theorem pw_succ (j : Int) (h : 0 ≤ j) : pw (j + 1) = 2 * pw j := by rw [Int.add_comm, pw_add 1 j (by decide) h]; rfl
theorem half_step {x j y : Int} (hx : Limb x) (h : HalfAt x j y) (hy : 0 < y) : HalfAt x (j + 1) (y / 2) := by
  obtain ⟨j0, j1, rfl, _⟩ := h
  have hp := pw_pos j
  have g : pw j ≤ x := by
    rcases Int.lt_or_le x (pw j) with c | c
    · rw [Int.ediv_eq_zero_of_lt hx.1 c] at hy; omega
    · exact c
  have lt : j < 32 := by
    refine pw_inj_le (by decide) ?_
    rw [show pw 32 = 4294967296 from rfl]; unfold Limb at hx; omega
  refine ⟨by omega, by omega, ?_, .inr (by rw [show j + 1 - 1 = j by omega]; exact g)⟩
  rw [pw_succ j j0, Int.mul_comm, Int.ediv_ediv_of_nonneg (Int.le_of_lt hp)]
theorem half_end {l : List Int} {j y : Int} (hl : ∀ x ∈ l, Limb x) (hn : Norm l) (hlen : l.length ≠ 0) (h : HalfAt (digV l (l.length - 1)) j y) (hy : ¬ 0 < y) : LenIs (natV l) (32 * ((l.length : Int) - 1) + j) := by
  obtain ⟨m, hm⟩ : ∃ m, l.length = m + 1 := ⟨l.length - 1, by omega⟩
  have e1 : l.length - 1 = m := by omega
  have e2 : (l.length : Int) - 1 = (m : Int) := by omega
  rw [e1] at h
  rw [e2]
  have hd := digV_limb hl m
  have hnz : digV l m ≠ 0 := by rw [digV_lt (by omega)]; exact hn m (by omega) (by omega)
  have hv : natV l = natV (l.take m) + pw (32 * (m : Int)) * digV l m := by rw [← natV_take_dig, natV_take_all (by omega)]
  have t0 := natV_nonneg (limbs_take hl m)
  have t1 := natV_take_lt hl m
  obtain ⟨j0, _, rfl, last⟩ := h
  have hp := pw_pos (32 * (m : Int))
  have hj := pw_pos j
  rw [hv]
  generalize digV l m = x at *
  generalize natV (l.take m) = t at *
  have hx : x < pw j := by
    rcases Int.lt_or_le x (pw j) with c | c
    · exact c
    · exact absurd (show 0 < x / pw j by have := Int.le_ediv_of_mul_le hj (show 1 * pw j ≤ x by omega); omega) hy
  have x0 : 0 < x := by unfold Limb at hd; omega
  have jp : 0 < j := by
    rcases Int.lt_or_le 0 j with c | c
    · exact c
    · rw [pw_nonpos c] at hx; omega
  have g : pw j ≤ 2 * x := by
    rcases last with c | c
    · omega
    · have := pw_succ (j - 1) (by omega); rw [show j - 1 + 1 = j by omega] at this; omega
  have ep : pw (32 * (m : Int) + j) = pw (32 * (m : Int)) * pw j := pw_add _ _ (by omega) j0
  have p1 : 0 < pw (32 * (m : Int)) * x := Int.mul_pos hp x0
  refine ⟨by omega, by omega, fun e => by omega, ?_, fun _ => ?_⟩
  · rw [ep]
    have := Int.mul_le_mul_of_nonneg_left (show x + 1 ≤ pw j by omega) (Int.le_of_lt hp)
    rw [Int.mul_add] at this; omega
  · rw [ep]
    have := Int.mul_le_mul_of_nonneg_left g (Int.le_of_lt hp)
    rw [Int.mul_left_comm] at this; omega

set_option maxHeartbeats 1000000 in
theorem rlen_any (A : Option Addr) (n c : Nat) (l : List Int) (w : World) (h : Sl w w.heap.size A n c l) (hn : n ≤ 100000000) :
    Calls Try.prog 60 #[.slice A n c] w (NLenPost (natV l) w) := by
  have HT := Lib.hid (rtrim_any A n c l w h (by omega))
  have hle := Lib.hid (show ∀ m : List Int, (∀ x ∈ m, Limb x) → Norm m → natV m = natV l → m.length ≤ n from fun m h1 h2 h3 => norm_len h1 h2 (by rw [h3, ← h.len]; exact natV_lt h.lim))
  clear h
  go_enter Try.func60, Try.ntmps60
  go_wp2_with fail
  refine HT.out.mono ?_
  rintro e w1 ⟨A1, n1, c1, l1, rfl, hs, hn1, hv, fr, hb⟩
  have n1b : n1 ≤ n := by have := hle.out l1 hs.lim hn1 hv; rw [hs.len] at this; exact this
  have hvh := Lib.hid hv
  clear hv hle HT
  by_cases c0 : n1 = 0
  · have cz : ((n1 : Int) == 0) = true := by simp [c0]
    have fin : Hid (LenIs (natV l) 0) := by
      have e : l1 = [] := List.eq_nil_of_length_eq_zero (by rw [hs.len]; exact c0)
      rw [← hvh.out, e]
      exact ⟨by decide, by decide, fun _ => rfl, by decide, fun h => absurd rfl h⟩
    have cz := Lib.hid c0
    clear c0 hs
    go_wp2
    go_ret
    exact ⟨0, fin.out, rfl, hb⟩
  · have cz : ((n1 : Int) == 0) = false := by simpa using c0
    obtain ⟨hlen, hcap, hmax, hlim, hnil, hrd⟩ := hs
    unfold maxLen at hmax
    rcases hrd with h0 | ⟨b, o, rfl, hb2, hc⟩
    · exact absurd h0 c0
    · obtain ⟨m, rfl⟩ : ∃ m, n1 = m + 1 := ⟨n1 - 1, by omega⟩
      have cell : w1.cell? ⟨b, o + m, none⟩ = some (.int .u32 (digV l1 m)) := by rw [hc m (by omega), digV_lt]
      have hx := digV_limb hlim m
      have em : ((m + 1 : Nat) : Int) = (m : Int) + 1 := by omega
      have hlt : (m : Int) < ((m + 1 : Nat) : Int) := by omega
      have es : ((m + 1 : Nat) : Int) - 1 = (m : Int) := by omega
      have fin : Hid (∀ j y, HalfAt (digV l1 m) j y → y ≤ 0 → LenIs (natV l) (32 * (m : Int) + j)) := fun j y h1 h2 => by
        rw [← hvh.out]
        have := half_end (l := l1) (j := j) (y := y) hlim hn1 (by omega) (by rw [show l1.length - 1 = m by omega]; exact h1) (by omega)
        rw [show (l1.length : Int) - 1 = (m : Int) by omega] at this
        exact this
      have st := Lib.hid (fun j y => @half_step (digV l1 m) j y hx)
      have s0 : Hid (HalfAt (digV l1 m) 0 (digV l1 m)) := ⟨by decide, by decide, by rw [show pw 0 = 1 from rfl, Int.ediv_one], .inl rfl⟩
      obtain ⟨x0, x1⟩ := hx
      generalize digV l1 m = x at *
      clear hc hnil hlim hlen c0 hvh hn1
      go_wp2
      go_loopw [4, 5] (fun n x' wr => ∃ j y : Int, n = .int .i64 (32 * (m : Int) + j) ∧ x' = .int .u32 y ∧ 0 ≤ j ∧ j ≤ 32 ∧ 0 ≤ y ∧ y ≤ 4294967295 ∧ HalfAt x j y ∧ w1 = wr) (fun _ x' _ => (intOf x').toNat)
      case atStart => exact ⟨0, x, by go_num, rfl, by decide, by decide, x0, by omega, s0.out, rfl⟩
      case round =>
        obtain ⟨j, y, rfl, rfl, j0, j1, y0, y1, hh, rfl⟩ := hrel
        by_cases hy : 0 < y
        · have hs := st.out j y hh hy
          clear st s0 fin
          have hb0 := hs.j1
          go_wp2
          go_roundw
          case rel => exact ⟨j + 1, y / 2, by go_num, rfl, by omega, hb0, by omega, by omega, hs, by first | trivial | rfl⟩
          case measure => simp [intOf]; omega
        · have := fin.out j y hh (by omega)
          clear st s0 fin
          go_wp2
          go_ret
          exact ⟨_, this, rfl, hb⟩

/-- What the comparison of two naturals answers. -/
def NCmpPost (x y : Int) (w : World) (e : Ending) (w' : World) : Prop := e = .returned (.int .i64 (cmpI x y)) ∧ Below w.heap.size w w'
theorem cmp_mk {x y r : Int} {w : World} {w' : World} (h : cmpI x y = r) (hb : Below w.heap.size w w') : NCmpPost x y w (.returned (.int .i64 r)) w' := ⟨by rw [h], hb⟩
theorem cmp_len {a b : List Int} (ha : ∀ x ∈ a, Limb x) (hb : ∀ x ∈ b, Limb x) (na : Norm a) (nb : Norm b) (h : a.length ≠ b.length) : cmpI (natV a) (natV b) = if a.length < b.length then -1 else 1 := by
  unfold cmpI
  by_cases c : a.length < b.length
  · rw [if_pos (norm_lt_of_len ha hb nb c), if_pos c]
  · have := norm_lt_of_len hb ha na (show b.length < a.length by omega)
    rw [if_neg (by omega), if_neg (by omega), if_neg c]
/-- The lists are alike from the k-th limb on. -/
def Alike (a b : List Int) (k : Nat) : Prop := a.drop k = b.drop k
theorem alike_step {a b : List Int} {k : Nat} (h : Alike a b (k + 1)) (h1 : k < a.length) (h2 : k < b.length) (e : digV a k = digV b k) : Alike a b k := by
  unfold Alike at *
  rw [List.drop_eq_getElem_cons h1, List.drop_eq_getElem_cons h2, h]
  rw [digV_lt h1, digV_lt h2] at e
  rw [e]
theorem alike_lt {a b : List Int} {k : Nat} (ha : ∀ x ∈ a, Limb x) (hb : ∀ x ∈ b, Limb x) (h : Alike a b (k + 1)) (h1 : k < a.length) (h2 : k < b.length) (e : digV a k < digV b k) : natV a < natV b := by
  have p := natV_split a (k + 1) (by omega)
  have q := natV_split b (k + 1) (by omega)
  unfold Alike at h
  rw [natV_take_dig] at p q
  rw [h] at p
  have a1 := natV_take_lt ha k
  have b0 := natV_nonneg (limbs_take hb k)
  have hp := pw_pos (32 * (k : Int))
  have := Int.mul_le_mul_of_nonneg_left (show digV a k + 1 ≤ digV b k by omega) (Int.le_of_lt hp)
  rw [Int.mul_add] at this
  omega
theorem alike_cmp {a b : List Int} {k : Nat} (ha : ∀ x ∈ a, Limb x) (hb : ∀ x ∈ b, Limb x) (h : Alike a b (k + 1)) (h1 : k < a.length) (h2 : k < b.length) (e : digV a k ≠ digV b k) : cmpI (natV a) (natV b) = if digV a k < digV b k then -1 else 1 := by
  unfold cmpI
  by_cases c : digV a k < digV b k
  · rw [if_pos (alike_lt ha hb h h1 h2 c), if_pos c]
  · have := alike_lt hb ha (k := k) (show Alike b a (k + 1) from Eq.symm h) h2 h1 (by omega)
    rw [if_neg (by omega), if_neg (by omega), if_neg c]
theorem alike_zero {a b : List Int} (h : Alike a b 0) : cmpI (natV a) (natV b) = 0 := by
  have : a = b := h
  subst this; unfold cmpI; rw [if_neg (by omega), if_pos rfl]
theorem alike_len {a b : List Int} (h : a.length = b.length) : Alike a b a.length := by
  unfold Alike; rw [List.drop_length, h, List.drop_length]

set_option maxHeartbeats 2000000 in
theorem rcmp_any (A B : Option Addr) (n m c d : Nat) (l k : List Int) (w : World) (h : Sl w w.heap.size A n c l) (h' : Sl w w.heap.size B m d k) (hn : n ≤ 100000000) (hm : m ≤ 100000000) :
    Calls Try.prog 47 #[.slice A n c, .slice B m d] w (NCmpPost (natV l) (natV k) w) := by
  have HT := Lib.hid (rtrim_any A n c l w h (by omega))
  have hle := Lib.hid (show ∀ x : List Int, (∀ y ∈ x, Limb y) → Norm x → natV x = natV l → x.length ≤ n from fun x h1 h2 h3 => norm_len h1 h2 (by rw [h3, ← h.len]; exact natV_lt h.lim))
  have hle' := Lib.hid (show ∀ x : List Int, (∀ y ∈ x, Limb y) → Norm x → natV x = natV k → x.length ≤ m from fun x h1 h2 h3 => norm_len h1 h2 (by rw [h3, ← h'.len]; exact natV_lt h'.lim))
  have H' := Lib.hid h'
  clear h h'
  go_enter Try.func47, Try.ntmps47
  go_wp2_with fail
  refine HT.out.mono ?_
  rintro e w1 ⟨A1, n1, c1, l1, rfl, hs, hn1, hv, fr, hb⟩
  have hvh := Lib.hid hv
  have n1b : n1 ≤ n := by have := hle.out l1 hs.lim hn1 hv; rw [hs.len] at this; exact this
  clear hv hle HT
  go_wp2_with fail
  refine (rtrim_any B m d k w1 (H'.out.on hb) (by omega)).mono ?_
  rintro e w2 ⟨A2, n2, c2, l2, rfl, hs2, hn2, hv2, fr2, hb2⟩
  have hvh2 := Lib.hid hv2
  have n2b : n2 ≤ m := by have := hle'.out l2 hs2.lim hn2 hv2; rw [hs2.len] at this; exact this
  have hs := hs.on hb2
  have hbb : Below w.heap.size w w2 := hb.trans (hb2.mono hb.size)
  clear hv2 hle' H' hb hb2
  by_cases cl : n1 = n2
  · subst cl
    obtain ⟨hlen, hcap, hmax, hlim, hnil, hrd⟩ := hs
    obtain ⟨hlen2, hcap2, hmax2, hlim2, hnil2, hrd2⟩ := hs2
    unfold maxLen at hmax hmax2
    have hmk : Hid (∀ r w', cmpI (natV l1) (natV l2) = r → Below w.heap.size w w' → NCmpPost (natV l) (natV k) w (.returned (.int .i64 r)) w') := fun r w' h1 h2 => cmp_mk (by rw [← hvh.out, ← hvh2.out]; exact h1) h2
    have hst := Lib.hid (fun k => @alike_cmp l1 l2 k hlim hlim2)
    have hz := Lib.hid (@alike_zero l1 l2)
    have hal := Lib.hid (alike_len (hlen.trans hlen2.symm))
    have hss := Lib.hid (fun k => @alike_step l1 l2 k)
    rcases Nat.eq_zero_or_pos n1 with c0 | c0
    · subst c0
      have fin := hmk.out 0 w2 (hz.out (by rw [← hlen]; exact hal.out)) hbb
      clear hlen hlen2 hmk hst hz hal hss hnil hnil2 hrd hrd2 hvh hvh2
      go_wp2
      refine wp_loop_rounds 1 ?_
      rw [rounds_succ]
      go_wp2
      go_ret
      exact fin
    · rcases hrd with h0 | ⟨b, o, rfl, hb2, hc⟩
      · omega
      rcases hrd2 with h0 | ⟨b', o', rfl, hb2', hc'⟩
      · omega
      have HC := Lib.hid (show ∀ i : Nat, i < n1 → w2.cell? ⟨b, o + i, none⟩ = some (.int .u32 (digV l1 i)) from fun i hi => by rw [hc i (by omega), digV_lt])
      have HC' := Lib.hid (show ∀ i : Nat, i < n1 → w2.cell? ⟨b', o' + i, none⟩ = some (.int .u32 (digV l2 i)) from fun i hi => by rw [hc' i (by omega), digV_lt])
      have HL := Lib.hid hlen
      have HL2 := Lib.hid hlen2
      have D1 := Lib.hid (digV_limb hlim)
      have D2 := Lib.hid (digV_limb hlim2)
      clear hc hc' hlen hlen2 hnil hnil2 hvh hvh2 hlim hlim2
      go_wp2
      go_loopw [7] (fun i wr => ∃ k : Nat, k ≤ n1 ∧ i = .int .i64 ((k : Int) - 1) ∧ Alike l1 l2 k ∧ ∃ q, w2.drewN q = wr) (fun i _ => (intOf i + 1).toNat)
      case atStart => exact ⟨n1, Nat.le_refl _, by go_num, by rw [← HL.out]; exact hal.out, 0, rfl⟩
      case round =>
        obtain ⟨k, hk, rfl, hA, q, rfl⟩ := hrel
        cases k with
        | zero =>
          have fin := Lib.hid (fun w' => hmk.out 0 w' (hz.out hA))
          clear HC HC' hst hss hz hal hmk hA HL HL2 D1 D2
          go_wp2
          go_ret
          exact fin.out _ (below_drewN hbb _)
        | succ j =>
          have hj : j < n1 := by omega
          have ej : ((j + 1 : Nat) : Int) - 1 = (j : Int) := by omega
          have jl : (j : Int) < (n1 : Int) := by omega
          have j0 : (0 : Int) ≤ (j : Int) := by omega
          have cell := HC.out j hj
          have cell' := HC'.out j hj
          obtain ⟨x0, x1⟩ := D1.out j
          obtain ⟨y0, y1⟩ := D2.out j
          have fe : Hid (digV l1 j = digV l2 j → Alike l1 l2 j) := hss.out j hA (by rw [HL.out]; exact hj) (by rw [HL2.out]; exact hj)
          have fn : Hid (digV l1 j ≠ digV l2 j → cmpI (natV l1) (natV l2) = if digV l1 j < digV l2 j then -1 else 1) := hst.out j hA (by rw [HL.out]; exact hj) (by rw [HL2.out]; exact hj)
          generalize digV l1 j = x at *
          generalize digV l2 j = y at *
          clear HC HC' hst hss hz hal hA HL HL2 D1 D2
          rcases Int.lt_trichotomy x y with cx | cx | cx
          · have fin := Lib.hid (fun w' => hmk.out (-1) w' (by rw [fn.out (by omega), if_pos cx]))
            have cx' := Lib.hid cx
            clear hmk fe fn
            go_wp2
            go_quiet (fail)
            go_wp2
            go_ret
            exact fin.out _ (by repeat (first | exact hbb | refine below_drewN ?_ _))
          · subst cx
            have fe2 : Hid (Alike l1 l2 j) := fe.out (by first | rfl | trivial)
            clear hmk fn
            go_wp2
            go_quiet (fail)
            go_wp2
            go_quiet (fail)
            go_wp2
            go_roundw
            case rel => exact ⟨j, by omega, by go_num, fe2.out, _, rfl⟩
            case measure => simp [intOf]
          · have fin := Lib.hid (fun w' => hmk.out 1 w' (by rw [fn.out (by omega), if_neg (by omega)]))
            have cx2 : ¬ x < y := by omega
            clear hmk fe fn
            go_wp2
            go_quiet (fail)
            go_wp2
            go_quiet (fail)
            go_wp2
            go_ret
            exact fin.out _ (by repeat (first | exact hbb | refine below_drewN ?_ _))
  · have el := cmp_len hs.lim hs2.lim hn1 hn2 (by rw [hs.len, hs2.len]; exact cl)
    rw [hs.len, hs2.len, hvh.out, hvh2.out] at el
    have cb : ((n1 : Int) != (n2 : Int)) = true := by simpa using (show (n1 : Int) ≠ n2 by omega)
    have c1 : (n1 : Int) ≤ 100000000 := by omega
    have c2 : (n2 : Int) ≤ 100000000 := by omega
    by_cases c : n1 < n2
    · rw [if_pos c] at el
      have fin := Lib.hid (fun w' => @cmp_mk _ _ _ w w' el)
      have c' : (n1 : Int) < (n2 : Int) := by omega
      clear el hs hs2 hn1 hn2 hvh hvh2 cl c
      go_wp2
      go_ret
      exact fin.out _ hbb
    · rw [if_neg c] at el
      have fin := Lib.hid (fun w' => @cmp_mk _ _ _ w w' el)
      have c' : ¬ (n1 : Int) < (n2 : Int) := by omega
      clear el hs hs2 hn1 hn2 hvh hvh2 cl c
      go_wp2
      go_ret
      exact fin.out _ hbb
end Go.Proofs.Ytomeidbigofnaaa
