import Derived.Test.YtmjidpkddiinaaaDoorX7
import Derived.Laws.AppendOwnNone
/-
  Lists of a call's own that may be written: what NatAgain wants of the operations.
-/
namespace Go.Proofs.YtmjidpkddiinaaaDoor
open Go.RowKit Go.Shelf

/-- A list of the call's own: each limb can be read, none is frozen. -/
def Mine (w w' : World) (A : Option Addr) (n : Nat) : Prop :=
  n ≤ 100000 ∧ (n = 0 ∨ ∃ g, A = some ⟨g, 0, none⟩ ∧ w.heap.size ≤ g ∧ g < w'.heap.size ∧ (∀ j, w'.frozen? ⟨g, j, none⟩ = false) ∧ ∀ i : Nat, i < n → ∃ x, Limb x ∧ w'.cell? ⟨g, i, none⟩ = some (.int .u32 x))
theorem Mine.nil {w w' : World} {A : Option Addr} : Mine w w' A 0 := ⟨by omega, .inl rfl⟩
theorem frozen_below {B : Nat} {w w' : World} {g : Nat} (h : Below B w w') (hg : g < B) (j : Nat) : w'.frozen? ⟨g, j, none⟩ = w.frozen? ⟨g, j, none⟩ := by
  unfold World.frozen?
  rw [h.block g hg]
theorem Mine.on {w w1 w2 : World} {A : Option Addr} {n : Nat} (h : Mine w w1 A n) (hb : Below w1.heap.size w1 w2) : Mine w w2 A n := by
  refine ⟨h.1, ?_⟩
  rcases h.2 with h0 | ⟨g, rfl, h1, h2, h3, h4⟩
  · exact .inl h0
  · refine .inr ⟨g, rfl, h1, Nat.lt_of_lt_of_le h2 hb.size, fun j => by rw [frozen_below hb h2]; exact h3 j, fun i hi => ?_⟩
    obtain ⟨x, hx, hc⟩ := h4 i hi
    exact ⟨x, hx, by rw [hb.cell (p := ⟨g, i, none⟩) h2]; exact hc⟩
theorem Mine.from {w0 w w' : World} {A : Option Addr} {n : Nat} (h : Mine w w' A n) (hs : w0.heap.size ≤ w.heap.size) : Mine w0 w' A n := by
  refine ⟨h.1, ?_⟩
  rcases h.2 with h0 | ⟨g, rfl, h1, h2⟩
  · exact .inl h0
  · exact .inr ⟨g, rfl, Nat.le_trans hs h1, h2⟩
theorem mine_own {w wr : World} {base g N k : Nat} {o : List Int} (h : wr.ownsRow base 66 1 (.slice (some ⟨g, 0, none⟩) N N) N (o.map (Value.int .u32))) (hl : ∀ t ∈ o, Limb t) (hg : w.heap.size ≤ g) (hk : k ≤ N) (hN : N ≤ 100000) : Mine w wr (some ⟨g, 0, none⟩) k := by
  refine ⟨by omega, .inr ⟨g, rfl, hg, row_lt h, fun j => h.frozenAt j, fun i hi => ?_⟩⟩
  have hc := row_cell h i (by omega)
  exact ⟨digV o i, digV_limb hl i, hc⟩
def NatMPost (w : World) (e : Ending) (w' : World) : Prop :=
  ∃ (A : Option Addr) (n c : Nat) (er : Int), e = .returned (.tuple #[.slice A n c, .int .i64 er]) ∧ Mine w w' A n ∧ Below w.heap.size w w'
theorem NatMPost.mk {w w' : World} {A : Option Addr} {n c : Nat} {er : Int} (h : Mine w w' A n) (hb : Below w.heap.size w w') : NatMPost w (.returned (.tuple #[.slice A n c, .int .i64 er])) w' := ⟨A, n, c, er, rfl, h, hb⟩
theorem NatMPost.nil {w w' : World} {A : Option Addr} {c : Nat} {er : Int} (hb : Below w.heap.size w w') : NatMPost w (.returned (.tuple #[.slice A 0 c, .int .i64 er])) w' := ⟨A, 0, c, er, rfl, Mine.nil, hb⟩
def NatM1Post (w : World) (e : Ending) (w' : World) : Prop :=
  ∃ (A : Option Addr) (n c : Nat), e = .returned (.slice A n c) ∧ Mine w w' A n ∧ Below w.heap.size w w'
def NatM2Post (w : World) (e : Ending) (w' : World) : Prop :=
  ∃ (B : Option Addr) (m d : Nat) (A : Option Addr) (n c : Nat) (er : Int), e = .returned (.tuple #[.slice B m d, .slice A n c, .int .i64 er]) ∧ Mine w w' A n ∧ Below w.heap.size w w'
def NatMBPost (w : World) (e : Ending) (w' : World) : Prop :=
  ∃ (A : Option Addr) (n c : Nat) (b : Bool) (er : Int), e = .returned (.tuple #[.slice A n c, .bool b, .int .i64 er]) ∧ Mine w w' A n ∧ Below w.heap.size w w'
theorem ntrim_m (A : Option Addr) (n c : Nat) (l : List Int) (w : World) (h : Sl w w.heap.size A n c l) (hn : n ≤ 30000) : Calls Tryd.prog 13 #[.slice A n c] w (NatM1Post w) := by
  refine (ntrim_row A n c l w h hn).mono ?_
  rintro e w' ⟨k, x, kn, rfl, h1, h2, h3, h4, h5⟩
  exact ⟨_, _, _, rfl, mine_own h1 h2 (Nat.le_refl _) (Nat.le_refl _) (by omega), h5⟩
end Go.Proofs.YtmjidpkddiinaaaDoor

/-
  Package nat: Add: what it hands back is its own.
-/
namespace Go.Proofs.YtmjidpkddiinaaaDoor
open Go.RowKit Go.Shelf

set_option maxRecDepth 100000 in
set_option maxHeartbeats 4000000 in
theorem nadd_m (A B : Option Addr) (n m c d : Nat) (a b : List Int) (w : World) (h : Sl w w.heap.size A n c a) (h' : Sl w w.heap.size B m d b) (hn : n ≤ 3000) (hm : m ≤ 3000) (ha : natV a < pw 8192) (hb : natV b < pw 8192) :
    Calls Tryd.prog 23 #[.slice A n c, .slice B m d] w (NatMPost w) := by
  have FT := Lib.hid (fits_any w.heap.size [(A, n, c, a), (B, m, d, b)] (w.alloc (.cells #[.slice A n c, .slice B m d] 26)) (lists_two h (by omega) h' (by omega)) (by simp))
  have e1 : decide (∀ x ∈ [(A, n, c, a), (B, m, d, b)], natV x.2.2.2 < pw 8192) = true := by simp; exact ⟨ha, hb⟩
  rw [e1] at FT
  have CA := Lib.hid (core_sl A n c a _ (h.alloc (.cells #[.slice A n c, .slice B m d] 26)) (by omega))
  have CB := Lib.hid (core_sl B m d b _ (h'.alloc (.cells #[.slice A n c, .slice B m d] 26)) (by omega))
  have b1 := Lib.hid (below_new w (.cells #[.slice A n c, .slice B m d] 26))
  have HA := Lib.hid (h.alloc (.cells #[.slice A n c, .slice B m d] 26))
  have HB := Lib.hid (h'.alloc (.cells #[.slice A n c, .slice B m d] 26))
  clear e1 h h'
  go_enter Tryd.func23, Tryd.ntmps23
  go_wp2_with fail
  refine FT.out.mono ?_
  rintro e w1 ⟨rfl, rfl⟩
  go_wp2_with fail
  refine CA.out.mono ?_
  rintro e w1 ⟨k, kn, nk, ek, rfl, rfl⟩
  go_wp2_with fail
  refine CB.out.mono ?_
  rintro e w1 ⟨j, jm, nj, ej, rfl, rfl⟩
  have SA := Lib.hid (HA.out.take kn)
  have SB := Lib.hid (HB.out.take jm)
  have la : (a.take k).length = k := SA.out.len
  have lb : (b.take j).length = j := SB.out.len
  have res : Hid (∀ (A2 : Option Addr) (n2 c2 : Nat) (l2 : List Int) (w2 : World), Sl w2 w2.heap.size A2 n2 c2 l2 → Norm l2 → natV l2 = natV (a.take k) + natV (b.take j) → natV l2 < pw 8192 → Mine w w2 A2 n2 → Below w.heap.size w w2 → NatMPost w (.returned (.tuple #[.slice A2 n2 c2, .int .i64 0])) w2) := fun A2 n2 c2 l2 w2 h1 h2 h3 h0 h4 h5 => NatMPost.mk h4 h5
  have bad : Hid (∀ (w2 : World), pw 8192 ≤ natV (a.take k) + natV (b.take j) → Below w.heap.size w w2 → NatMPost w (.returned (.tuple #[.slice none 0 0, .int .i64 2])) w2) := fun w2 h0 h5 => NatMPost.nil h5
  generalize w.alloc (.cells #[.slice A n c, .slice B m d] 26) = W at *
  clear HA HB FT CA CB
  by_cases c1 : k < j
  · have c2 : (k : Int) < (j : Int) := by omega
    obtain ⟨N, hN⟩ : ∃ N, j + 1 = N := ⟨_, rfl⟩
    have eN : (j : Int) + 1 = (N : Int) := by omega
    have EN := Lib.hid eN
    have bN : N ≤ 3001 := by omega
    have dx := Lib.hid (digV_limb SB.out.lim); have dy := Lib.hid (digV_limb SA.out.lim)
    have st0 := Lib.hid (sum2_start (b.take j) (a.take k) SB.out.lim N (by rw [lb]; exact hN))
    have stp := Lib.hid (fun i o cy s => @sum2_step (b.take j) (a.take k) o N i cy s SB.out.lim SA.out.lim)
    have fin := Lib.hid (fun o cy (H : SumAt2 (b.take j) (a.take k) N N o cy) => sum2_end SB.out.lim SA.out.lim H (by rw [lb]; exact hN) (by rw [lb, la]; omega))
    have spl := Lib.hid (splice_zero (b.take j) 1)
    rw [lb, hN] at spl
    have LY := Lib.hid la
    have res : Hid (∀ (A2 : Option Addr) (n2 c2 : Nat) (l2 : List Int) (w2 : World), Sl w2 w2.heap.size A2 n2 c2 l2 → Norm l2 → natV l2 = natV (b.take j) + natV (a.take k) → natV l2 < pw 8192 → Mine w w2 A2 n2 → Below w.heap.size w w2 → NatMPost w (.returned (.tuple #[.slice A2 n2 c2, .int .i64 0])) w2) := fun A2 n2 c2 l2 w2 h1 h2 h3 h0 h4 h5 => res.out A2 n2 c2 l2 w2 h1 h2 (by rw [h3]; omega) h0 h4 h5
    have bad : Hid (∀ (w2 : World), pw 8192 ≤ natV (b.take j) + natV (a.take k) → Below w.heap.size w w2 → NatMPost w (.returned (.tuple #[.slice none 0 0, .int .i64 2])) w2) := fun w2 h0 h5 => bad.out w2 (by omega) h5
    have SX := Lib.hid SB.out; have SY := Lib.hid SA.out
    clear nk nj ek ej la lb SA SB
    generalize b.take j = x at *
    generalize a.take k = y at *
    have klt : (j : Int) ≤ 3000 := by omega
    have jlt : (k : Int) ≤ (j : Int) := by omega
    have wsz := Lib.hid b1.out.size
    have NN := Lib.hid hN
    clear hN eN
    go_wp2_with (at_make; go_loud (refine wpList_mkN rfl _ _ rfl W.heap.size _ _ N rfl rfl EN.out EN.out (by omega) (Nat.le_refl _) ?_); intro w1 hown1 hb1 hz1; obtain ⟨w2, hrun, hown2, hb2⟩ := copyN_run W.heap.size W.heap.size N 0 N N _ _ j _ x hown1 W.heap.size (SX.out.below hb1) (by have := NN.out; omega) (by have := NN.out; omega); have hown1 := Lib.hid hown1)
    have hown2 := hown2.out
    rw [spl.out] at hown2
    have hb2 := hb1.trans hb2
    have hz2 : W.heap.size < w2.heap.size := by have := (row_heap hown2).2.2.2; rcases Nat.lt_or_ge W.heap.size w2.heap.size with h | h; exact h; rw [Array.getElem?_eq_none h] at this; cases this
    clear hown1 hb1 hz1 spl SX
    have hown2 := Lib.hid hown2
    go_wp2
    have hb2 := Lib.hid hb2
    go_loopw [9, 36] (fun v ii wx => ∃ i : Nat, ∃ cy : Int, ∃ o : List Int, ii = .int .i64 (i : Int) ∧ v = .int .u64 cy ∧ i ≤ N ∧ 0 ≤ cy ∧ cy ≤ 1 ∧ wx.ownsRow W.heap.size 66 1 (.slice (some ⟨W.heap.size, 0, none⟩) N N) N (o.map (Value.int .u32)) ∧ Below W.heap.size W wx ∧ W.heap.size < wx.heap.size ∧ SumAt2 x y N i o cy) (fun _ ii _ => N - (intOf ii).toNat)
    case atStart => exact ⟨0, 0, _, rfl, rfl, by omega, by decide, by decide, hown2.out, hb2.out, hz2, st0.out⟩
    case round =>
      obtain ⟨i, cy, o, rfl, rfl, hi, c0, c1', hown, hB, hz, hI⟩ := hrel
      clear hown2 hb2 hz2 st0
      by_cases hlt : i < N
      · have cell1 := row_cell hown i hlt
        have fr : World.frozen? _ ⟨W.heap.size, i, none⟩ = false := hown.frozenAt i
        have ilt : (i : Int) < (N : Int) := by omega
        have i0 : (0 : Int) ≤ (i : Int) := by omega
        have ib : (i : Int) ≤ 3001 := by omega
        have stp1 := Lib.hid (stp.out i o cy (digV x i + digV y i + cy) hI hlt rfl)
        rw [hI.rest i (Nat.le_refl _)] at cell1
        obtain ⟨x0, x1⟩ := dx.out i
        obtain ⟨y0, y1⟩ := dy.out i
        have Hset := Lib.hid (fun v => row_set hown i v)
        by_cases hy : i < k
        · have SYw := SY.out.below hB
          rcases SYw.rd with hz1 | ⟨b1', o1, rfl, hbb, hc1⟩
          · omega
          have cell2 := hc1 i (by rw [LY.out]; exact hy)
          rw [← digV_lt] at cell2
          have yl : (i : Int) < (k : Int) := by omega
          generalize digV x i = X at *
          generalize digV y i = Y at *
          have w1 : IntKind.u64.wrap (cy + X) = cy + X := by rw [IntKind.wrap_u64]; omega
          have w2 : IntKind.u64.wrap (cy + X + Y) = cy + X + Y := by rw [IntKind.wrap_u64]; omega
          clear hc1 SYw dx dy hI hown stp fin res bad SY
          go_wp2
          go_roundw
          case rel => exact ⟨i + 1, _, _, by go_num, rfl, by omega, by omega, by omega, Hset.out _, hB.setCell (Nat.le_refl _) _, by simpa [World.setCell] using hz, by
            have e := stp1.out
            rw [show X + Y + cy = cy + X + Y by omega] at e
            exact e⟩
          case measure => simp [intOf]; omega
        · have yl : ¬ (i : Int) < (k : Int) := by omega
          have Yz : digV y i = 0 := digV_ge (by rw [LY.out]; omega)
          rw [Yz] at stp1
          generalize digV x i = X at *
          have w1 : IntKind.u64.wrap (cy + X) = cy + X := by rw [IntKind.wrap_u64]; omega
          clear dx dy hI hown stp fin res bad SY Yz y0 y1
          go_wp2
          go_roundw
          case rel => exact ⟨i + 1, _, _, by go_num, rfl, by omega, by omega, by omega, Hset.out _, hB.setCell (Nat.le_refl _) _, by simpa [World.setCell] using hz, by
            have e := stp1.out
            rw [show X + 0 + cy = cy + X by omega] at e
            exact e⟩
          case measure => simp [intOf]; omega
      · obtain rfl : i = N := by omega
        have ev := fin.out o cy hI
        have lim := hI.lim
        have BD := Lib.hid (bounded_sl _ i i o _ (row_sl hown lim) (by omega))
        have FIN : Hid (∀ (k2 : Nat) (w3 : World), k2 ≤ i → Norm (o.take k2) → natV (o.take k2) = natV o → natV o < pw 8192 → Below _ _ w3 → _) := fun k2 w3 h1 h2 h3 h0 h4 => res.out (some ⟨W.heap.size, 0, none⟩) k2 i (o.take k2) w3 (((row_sl hown lim).take h1).on h4) h2 (by rw [h3, ev]) (by rw [h3]; exact h0) ((mine_own (w := w) hown lim wsz.out h1 (by omega)).on h4) ((b1.out.trans (hB.mono wsz.out)).trans (h4.mono (Nat.le_trans wsz.out (Nat.le_of_lt hz))))
        have BAD : Hid (∀ (w3 : World), pw 8192 ≤ natV o → Below _ _ w3 → _) := fun w3 h0 h4 => bad.out w3 (by rw [← ev]; exact h0) ((b1.out.trans (hB.mono wsz.out)).trans (h4.mono (Nat.le_trans wsz.out (Nat.le_of_lt hz))))
        have hge : ¬ (i : Int) < (i : Int) := by omega
        clear dx dy hI hown stp fin res bad SY lim ev
        go_wp2_with fail
        refine BD.out.mono ?_
        rintro e w3 ⟨hb3, hy, hn3⟩
        rcases Int.lt_or_le (natV o) (pw 8192) with ov | ov
        · obtain ⟨k2, h1, h2, h3, rfl⟩ := hy ov
          have q := Lib.hid (FIN.out k2 w3 h1 h2 h3 ov hb3)
          clear h2 h3 hb3 FIN BAD ov hy hn3
          go_wp2
          go_ret2
          exact q.out
        · obtain rfl := hn3 ov
          have q := Lib.hid (BAD.out w3 ov hb3)
          clear hb3 FIN BAD ov hy hn3
          go_wp2
          go_ret2
          exact q.out
  · have c2 : ¬ (k : Int) < (j : Int) := by omega
    obtain ⟨N, hN⟩ : ∃ N, k + 1 = N := ⟨_, rfl⟩
    have eN : (k : Int) + 1 = (N : Int) := by omega
    have EN := Lib.hid eN
    have bN : N ≤ 3001 := by omega
    have dx := Lib.hid (digV_limb SA.out.lim); have dy := Lib.hid (digV_limb SB.out.lim)
    have st0 := Lib.hid (sum2_start (a.take k) (b.take j) SA.out.lim N (by rw [la]; exact hN))
    have stp := Lib.hid (fun i o cy s => @sum2_step (a.take k) (b.take j) o N i cy s SA.out.lim SB.out.lim)
    have fin := Lib.hid (fun o cy (H : SumAt2 (a.take k) (b.take j) N N o cy) => sum2_end SA.out.lim SB.out.lim H (by rw [la]; exact hN) (by rw [la, lb]; omega))
    have spl := Lib.hid (splice_zero (a.take k) 1)
    rw [la, hN] at spl
    have LY := Lib.hid lb
    have SX := Lib.hid SA.out; have SY := Lib.hid SB.out
    clear nk nj ek ej la lb SA SB
    generalize a.take k = x at *
    generalize b.take j = y at *
    have klt : (k : Int) ≤ 3000 := by omega
    have jlt : (j : Int) ≤ (k : Int) := by omega
    have wsz := Lib.hid b1.out.size
    have NN := Lib.hid hN
    clear hN eN
    go_wp2_with (at_make; go_loud (refine wpList_mkN rfl _ _ rfl W.heap.size _ _ N rfl rfl EN.out EN.out (by omega) (Nat.le_refl _) ?_); intro w1 hown1 hb1 hz1; obtain ⟨w2, hrun, hown2, hb2⟩ := copyN_run W.heap.size W.heap.size N 0 N N _ _ k _ x hown1 W.heap.size (SX.out.below hb1) (by have := NN.out; omega) (by have := NN.out; omega); have hown1 := Lib.hid hown1)
    have hown2 := hown2.out
    rw [spl.out] at hown2
    have hb2 := hb1.trans hb2
    have hz2 : W.heap.size < w2.heap.size := by have := (row_heap hown2).2.2.2; rcases Nat.lt_or_ge W.heap.size w2.heap.size with h | h; exact h; rw [Array.getElem?_eq_none h] at this; cases this
    clear hown1 hb1 hz1 spl SX
    have hown2 := Lib.hid hown2
    go_wp2
    have hb2 := Lib.hid hb2
    go_loopw [9, 36] (fun v ii wx => ∃ i : Nat, ∃ cy : Int, ∃ o : List Int, ii = .int .i64 (i : Int) ∧ v = .int .u64 cy ∧ i ≤ N ∧ 0 ≤ cy ∧ cy ≤ 1 ∧ wx.ownsRow W.heap.size 66 1 (.slice (some ⟨W.heap.size, 0, none⟩) N N) N (o.map (Value.int .u32)) ∧ Below W.heap.size W wx ∧ W.heap.size < wx.heap.size ∧ SumAt2 x y N i o cy) (fun _ ii _ => N - (intOf ii).toNat)
    case atStart => exact ⟨0, 0, _, rfl, rfl, by omega, by decide, by decide, hown2.out, hb2.out, hz2, st0.out⟩
    case round =>
      obtain ⟨i, cy, o, rfl, rfl, hi, c0, c1', hown, hB, hz, hI⟩ := hrel
      clear hown2 hb2 hz2 st0
      by_cases hlt : i < N
      · have cell1 := row_cell hown i hlt
        have fr : World.frozen? _ ⟨W.heap.size, i, none⟩ = false := hown.frozenAt i
        have ilt : (i : Int) < (N : Int) := by omega
        have i0 : (0 : Int) ≤ (i : Int) := by omega
        have ib : (i : Int) ≤ 3001 := by omega
        have stp1 := Lib.hid (stp.out i o cy (digV x i + digV y i + cy) hI hlt rfl)
        rw [hI.rest i (Nat.le_refl _)] at cell1
        obtain ⟨x0, x1⟩ := dx.out i
        obtain ⟨y0, y1⟩ := dy.out i
        have Hset := Lib.hid (fun v => row_set hown i v)
        by_cases hy : i < j
        · have SYw := SY.out.below hB
          rcases SYw.rd with hz1 | ⟨b1', o1, rfl, hbb, hc1⟩
          · omega
          have cell2 := hc1 i (by rw [LY.out]; exact hy)
          rw [← digV_lt] at cell2
          have yl : (i : Int) < (j : Int) := by omega
          generalize digV x i = X at *
          generalize digV y i = Y at *
          have w1 : IntKind.u64.wrap (cy + X) = cy + X := by rw [IntKind.wrap_u64]; omega
          have w2 : IntKind.u64.wrap (cy + X + Y) = cy + X + Y := by rw [IntKind.wrap_u64]; omega
          clear hc1 SYw dx dy hI hown stp fin res bad SY
          go_wp2
          go_roundw
          case rel => exact ⟨i + 1, _, _, by go_num, rfl, by omega, by omega, by omega, Hset.out _, hB.setCell (Nat.le_refl _) _, by simpa [World.setCell] using hz, by
            have e := stp1.out
            rw [show X + Y + cy = cy + X + Y by omega] at e
            exact e⟩
          case measure => simp [intOf]; omega
        · have yl : ¬ (i : Int) < (j : Int) := by omega
          have Yz : digV y i = 0 := digV_ge (by rw [LY.out]; omega)
          rw [Yz] at stp1
          generalize digV x i = X at *
          have w1 : IntKind.u64.wrap (cy + X) = cy + X := by rw [IntKind.wrap_u64]; omega
          clear dx dy hI hown stp fin res bad SY Yz y0 y1
          go_wp2
          go_roundw
          case rel => exact ⟨i + 1, _, _, by go_num, rfl, by omega, by omega, by omega, Hset.out _, hB.setCell (Nat.le_refl _) _, by simpa [World.setCell] using hz, by
            have e := stp1.out
            rw [show X + 0 + cy = cy + X by omega] at e
            exact e⟩
          case measure => simp [intOf]; omega
      · obtain rfl : i = N := by omega
        have ev := fin.out o cy hI
        have lim := hI.lim
        have BD := Lib.hid (bounded_sl _ i i o _ (row_sl hown lim) (by omega))
        have FIN : Hid (∀ (k2 : Nat) (w3 : World), k2 ≤ i → Norm (o.take k2) → natV (o.take k2) = natV o → natV o < pw 8192 → Below _ _ w3 → _) := fun k2 w3 h1 h2 h3 h0 h4 => res.out (some ⟨W.heap.size, 0, none⟩) k2 i (o.take k2) w3 (((row_sl hown lim).take h1).on h4) h2 (by rw [h3, ev]) (by rw [h3]; exact h0) ((mine_own (w := w) hown lim wsz.out h1 (by omega)).on h4) ((b1.out.trans (hB.mono wsz.out)).trans (h4.mono (Nat.le_trans wsz.out (Nat.le_of_lt hz))))
        have BAD : Hid (∀ (w3 : World), pw 8192 ≤ natV o → Below _ _ w3 → _) := fun w3 h0 h4 => bad.out w3 (by rw [← ev]; exact h0) ((b1.out.trans (hB.mono wsz.out)).trans (h4.mono (Nat.le_trans wsz.out (Nat.le_of_lt hz))))
        have hge : ¬ (i : Int) < (i : Int) := by omega
        clear dx dy hI hown stp fin res bad SY lim ev
        go_wp2_with fail
        refine BD.out.mono ?_
        rintro e w3 ⟨hb3, hy, hn3⟩
        rcases Int.lt_or_le (natV o) (pw 8192) with ov | ov
        · obtain ⟨k2, h1, h2, h3, rfl⟩ := hy ov
          have q := Lib.hid (FIN.out k2 w3 h1 h2 h3 ov hb3)
          clear h2 h3 hb3 FIN BAD ov hy hn3
          go_wp2
          go_ret2
          exact q.out
        · obtain rfl := hn3 ov
          have q := Lib.hid (BAD.out w3 ov hb3)
          clear hb3 FIN BAD ov hy hn3
          go_wp2
          go_ret2
          exact q.out
end Go.Proofs.YtmjidpkddiinaaaDoor

/-
  Package nat: Sub: what it hands back is its own.
-/
namespace Go.Proofs.YtmjidpkddiinaaaDoor
open Go.RowKit Go.Shelf

set_option maxRecDepth 100000 in
set_option maxHeartbeats 4000000 in
theorem nsub_m (A B : Option Addr) (n m c d : Nat) (a b : List Int) (w : World) (h : Sl w w.heap.size A n c a) (h' : Sl w w.heap.size B m d b) (hn : n ≤ 3000) (hm : m ≤ 3000) (ha : natV a < pw 8192) (hle : natV b ≤ natV a) :
    Calls Tryd.prog 25 #[.slice A n c, .slice B m d] w (NatMPost w) := by
  have FT := Lib.hid (fits_any w.heap.size [(A, n, c, a), (B, m, d, b)] (w.alloc (.cells #[.slice A n c, .slice B m d] 26)) (lists_two h (by omega) h' (by omega)) (by simp))
  have e1 : decide (∀ x ∈ [(A, n, c, a), (B, m, d, b)], natV x.2.2.2 < pw 8192) = true := by simp; omega
  rw [e1] at FT
  have b1 := Lib.hid (below_new w (.cells #[.slice A n c, .slice B m d] 26))
  have HA := h.alloc (.cells #[.slice A n c, .slice B m d] 26)
  have HB := h'.alloc (.cells #[.slice A n c, .slice B m d] 26)
  have CM := Lib.hid (ncmp_any A B n m c d a b _ HA HB (by omega) (by omega))
  have HA := Lib.hid HA; have HB := Lib.hid HB
  have ge : Hid (¬ cmpI (natV a) (natV b) < 0) := by unfold Hid cmpI; split <;> (try split) <;> omega
  have LE := Lib.hid hle
  clear e1 h h' hle
  go_enter Tryd.func25, Tryd.ntmps25
  go_wp2_with fail
  refine FT.out.mono ?_
  rintro e w1 ⟨rfl, rfl⟩
  go_wp2_with fail
  refine CM.out.mono ?_
  rintro e w1 ⟨rfl, hb1⟩
  generalize cmpI (natV a) (natV b) = r at *
  have ger := ge.out
  have HA1 := HA.out.on hb1
  have HB1 := HB.out.on hb1
  have bb := Lib.hid (b1.out.trans (hb1.mono b1.out.size))
  clear FT CM HA HB b1 hb1
  have TR := Lib.hid (ntrim_row A n c a _ HA1 (by omega))
  have HB1 := Lib.hid HB1
  clear HA1
  go_wp2_with fail
  refine TR.out.mono ?_
  rintro e w2 ⟨N, x, xn, rfl, hown, xl, xN, xv, hb2⟩
  have HB2 := HB1.out.on hb2
  have CO := Lib.hid (core_sl B m d b w2 HB2 (by omega))
  have HB2 := Lib.hid HB2
  clear TR
  go_wp2_with fail
  refine CO.out.mono ?_
  rintro e w3 ⟨j, jm, nj, ej, rfl, rfl⟩
  have SY := Lib.hid (HB1.out.take jm)
  have LY := Lib.hid SY.out.len
  have lx : x.length = N := by have := (row_heap hown).2.1; exact this
  have jN : j ≤ N := by
    have a1 := norm_len (k := N) SY.out.lim nj (by rw [ej]; have := natV_lt xl; rw [lx, xv] at this; have := LE.out; omega)
    rw [LY.out] at a1; exact a1
  have dx := Lib.hid (digV_limb xl); have dy := Lib.hid (digV_limb SY.out.lim)
  have st0 := Lib.hid (diff_start x (b.take j) xl)
  have stp := Lib.hid (fun i o bw s => @diff_step x (b.take j) o i bw s xl SY.out.lim)
  have fin := Lib.hid (fun o bw (H : DiffAt x (b.take j) x.length o bw) => diff_end H (by rw [LY.out, lx]; exact jN) (by rw [ej, xv]; exact LE.out))
  rw [ej, xv] at fin
  have LX := Lib.hid lx
  have bb2 := Lib.hid (bb.out.trans (hb2.mono bb.out.size))
  clear HB1 HB2 CO nj ej xl xN xv lx
  generalize b.take j = y at *
  have sz := Lib.hid bb.out.size
  have Nb : (N : Int) ≤ 3000 := by omega
  have hown := Lib.hid hown
  have S32 := Lib.hid (fun X Y bw hX hY c0 c1 W => sub32_any X Y bw hX hY c0 c1 W)
  have hb2 := Lib.hid hb2
  go_wp2
  go_loopw [8, 26] (fun v ii wx => ∃ i : Nat, ∃ bw : Int, ∃ o : List Int, ii = .int .i64 (i : Int) ∧ v = .int .u32 bw ∧ i ≤ N ∧ 0 ≤ bw ∧ bw ≤ 1 ∧ wx.ownsRow w1.heap.size 66 1 (.slice (some ⟨w1.heap.size, 0, none⟩) N N) N (o.map (Value.int .u32)) ∧ Below w1.heap.size w1 wx ∧ DiffAt x y i o bw) (fun _ ii _ => N - (intOf ii).toNat)
  case atStart => exact ⟨0, 0, x, rfl, rfl, by omega, by decide, by decide, hown.out, hb2.out, st0.out⟩
  case round =>
    obtain ⟨i, bw, o, rfl, rfl, hi, c0, c1, hown, hB, hI⟩ := hrel
    clear st0
    by_cases hlt : i < N
    · have cell1 := row_cell hown i hlt
      have fr : World.frozen? _ ⟨w1.heap.size, i, none⟩ = false := hown.frozenAt i
      have ilt : (i : Int) < (N : Int) := by omega
      have i0 : (0 : Int) ≤ (i : Int) := by omega
      have ib : (i : Int) ≤ 3000 := by omega
      have stp1 := Lib.hid (stp.out i o bw (digV x i - digV y i - bw) hI (by rw [LX.out]; exact hlt) rfl)
      rw [hI.rest i (Nat.le_refl _)] at cell1
      have SU := Lib.hid (fun W => S32.out (digV x i) (digV y i) bw (dx.out i) (dy.out i) c0 c1 W)
      obtain ⟨x0, x1⟩ := dx.out i
      obtain ⟨y0, y1⟩ := dy.out i
      have Hset := Lib.hid (fun v => row_set hown i v)
      by_cases hy : i < j
      · have SYw := SY.out.below hB
        rcases SYw.rd with hz1 | ⟨b1', o1, rfl, hbb, hc1⟩
        · omega
        have cell2 := hc1 i (by rw [LY.out]; exact hy)
        rw [← digV_lt] at cell2
        have yl : (i : Int) < (j : Int) := by omega
        generalize digV x i = X at *
        generalize digV y i = Y at *
        obtain ⟨bo, hbo⟩ : ∃ bo : Int, (if X - Y - bw < 0 then 1 else 0) = bo := ⟨_, rfl⟩
        have bo01 : 0 ≤ bo ∧ bo ≤ 1 := by rw [← hbo]; split <;> omega
        rw [hbo] at SU stp1
        clear hbo hc1 SYw dx dy hI hown stp fin SY S32
        go_wp2_with (go_at_call 50; refine (SU.out _).mono ?_; rintro e w' ⟨rfl, rfl⟩)
        go_roundw
        case rel => exact ⟨i + 1, _, _, by go_num, rfl, by omega, bo01.1, bo01.2, Hset.out _, hB.setCell (Nat.le_refl _) _, stp1.out⟩
        case measure => simp [intOf]; omega
      · have yl : ¬ (i : Int) < (j : Int) := by omega
        have Yz : digV y i = 0 := digV_ge (by rw [LY.out]; omega)
        rw [Yz, Int.sub_zero] at stp1 SU
        generalize digV x i = X at *
        obtain ⟨bo, hbo⟩ : ∃ bo : Int, (if X - bw < 0 then 1 else 0) = bo := ⟨_, rfl⟩
        have bo01 : 0 ≤ bo ∧ bo ≤ 1 := by rw [← hbo]; split <;> omega
        rw [hbo] at SU stp1
        clear hbo dx dy hI hown stp fin SY S32 Yz y0 y1
        go_wp2_with (go_at_call 50; refine (SU.out _).mono ?_; rintro e w' ⟨rfl, rfl⟩)
        go_roundw
        case rel => exact ⟨i + 1, _, _, by go_num, rfl, by omega, bo01.1, bo01.2, Hset.out _, hB.setCell (Nat.le_refl _) _, stp1.out⟩
        case measure => simp [intOf]; omega
    · obtain rfl : i = N := by omega
      have ev := fin.out o bw (by rw [LX.out]; exact hI)
      have sl := row_sl hown hI.lim
      have CO := Lib.hid (core_sl _ i i o _ sl (by omega))
      have FIN : Hid (∀ k2 : Nat, k2 ≤ i → Norm (o.take k2) → natV (o.take k2) = natV o → NatMPost w (.returned (.tuple #[.slice (some ⟨w1.heap.size, 0, none⟩) k2 i, .int .i64 0])) _) := fun k2 h1 h2 h3 => NatMPost.mk (mine_own hown hI.lim sz.out h1 (by omega)) (bb.out.trans (hB.mono sz.out))
      have hge : ¬ (i : Int) < (i : Int) := by omega
      clear dx dy hI hown stp fin SY S32 ev sl
      go_wp2_with fail
      refine CO.out.mono ?_
      rintro e w3 ⟨k2, h1, h2, h3, rfl, rfl⟩
      have q := Lib.hid (FIN.out k2 h1 h2 h3)
      clear h2 h3 FIN
      go_wp2
      go_ret2
      exact q.out
end Go.Proofs.YtmjidpkddiinaaaDoor

/-
  Package nat: DivMod where the divisor is greater: what it hands back is its own.
-/
namespace Go.Proofs.YtmjidpkddiinaaaDoor
open Go.RowKit Go.Shelf

set_option maxRecDepth 100000 in
set_option maxHeartbeats 4000000 in
theorem ndiv_m (A B : Option Addr) (n m c d : Nat) (a b : List Int) (w : World) (h : Sl w w.heap.size A n c a) (h' : Sl w w.heap.size B m d b) (hn : n ≤ 3000) (hm : m ≤ 3000) (hov : natV a < pw 8192 ∧ natV b < pw 8192) (hab : natV a < natV b) :
    Calls Tryd.prog 29 #[.slice A n c, .slice B m d] w (NatM2Post w) := by
  have FT := Lib.hid (fits_any w.heap.size [(A, n, c, a), (B, m, d, b)] (w.alloc (.cells #[.slice A n c, .slice B m d] 26)) (lists_two h (by omega) h' (by omega)) (by simp))
  have e1 : decide (∀ x ∈ [(A, n, c, a), (B, m, d, b)], natV x.2.2.2 < pw 8192) = true := by simpa using hov
  rw [e1] at FT
  have CA := Lib.hid (core_sl A n c a _ (h.alloc (.cells #[.slice A n c, .slice B m d] 26)) (by omega))
  have CB := Lib.hid (core_sl B m d b _ (h'.alloc (.cells #[.slice A n c, .slice B m d] 26)) (by omega))
  have b1 := Lib.hid (below_new w (.cells #[.slice A n c, .slice B m d] 26))
  have HA := Lib.hid (h.alloc (.cells #[.slice A n c, .slice B m d] 26))
  have HB := Lib.hid (h'.alloc (.cells #[.slice A n c, .slice B m d] 26))
  clear e1 h h'
  go_enter Tryd.func29, Tryd.ntmps29
  go_wp2_with fail
  refine FT.out.mono ?_
  rintro e w1 ⟨rfl, rfl⟩
  go_wp2_with fail
  refine CA.out.mono ?_
  rintro e w1 ⟨k, kn, nk, ek, rfl, rfl⟩
  go_wp2_with fail
  refine CB.out.mono ?_
  rintro e w1 ⟨j, jm, nj, ej, rfl, rfl⟩
  have SA := Lib.hid (HA.out.take kn)
  have SB := Lib.hid (HB.out.take jm)
  have hab := Lib.hid (show natV (a.take k) < natV (b.take j) by rw [ek, ej]; exact hab)
  generalize w.alloc (.cells #[.slice A n c, .slice B m d] 26) = W at *
  clear HA HB FT CA CB ek ej
  have kb : k ≤ 3000 := by omega
  have jb : j ≤ 3000 := by omega
  have kb' : (k : Int) ≤ 3000 := by omega
  have jb' : (j : Int) ≤ 3000 := by omega
  generalize a.take k = x at *
  generalize b.take j = y at *
  by_cases cz : j = 0
  · subst cz
    have ey : y = [] := List.eq_nil_of_length_eq_zero SB.out.len
    have := hab.out
    rw [ey] at this
    have z0 := natV_nonneg SA.out.lim
    rw [show natV [] = 0 from rfl] at this
    omega
  · have cz' : ¬ (j : Int) = 0 := by omega
    have cz2 : ((j : Int) == 0) = false := by simpa using cz'
    have CM := Lib.hid (ncmp_any A B k j c d x y W SA.out SB.out (by omega) (by omega))
    go_wp2_with fail
    refine CM.out.mono ?_
    rintro e w2 ⟨rfl, hb2⟩
    have SA2 := Lib.hid (SA.out.on hb2)
    have SB2 := Lib.hid (SB.out.on hb2)
    have B2 := Lib.hid (b1.out.trans (hb2.mono b1.out.size))
    clear SA SB b1 CM hb2
    have ecm : cmpI (natV x) (natV y) = -1 := by unfold cmpI; rw [if_pos hab.out]
    rw [ecm]
    have TR := Lib.hid (ntrim_m A k c x w2 SA2.out (by omega))
    clear SA2 SB2 ecm nk nj
    go_wp2_with fail
    refine TR.out.mono ?_
    rintro e w3 ⟨A3, n3, c3, rfl, h1, h2⟩
    have fin : Hid (NatM2Post w (.returned (.tuple #[.slice none 0 0, .slice A3 n3 c3, .int .i64 0])) w3) :=
      ⟨_, _, _, _, _, _, _, rfl, h1.from B2.out.size, B2.out.trans (h2.mono B2.out.size)⟩
    clear h1 h2 TR
    go_wp2
    go_ret3
    exact fin.out
end Go.Proofs.YtmjidpkddiinaaaDoor

/-
  Package nat: Shr: what it hands back is its own.
-/
namespace Go.Proofs.YtmjidpkddiinaaaDoor
open Go.RowKit Go.Shelf

set_option maxRecDepth 100000 in
set_option maxHeartbeats 4000000 in
theorem nshr_m (A : Option Addr) (n c : Nat) (a : List Int) (s : Int) (w : World) (h : Sl w w.heap.size A n c a) (hn : n ≤ 3000) (s0 : 0 ≤ s) (smax : s ≤ 9223372036854775807) (ha : natV a < pw 8192) :
    Calls Tryd.prog 33 #[.slice A n c, .int .i64 s] w (NatMBPost w) := by
  have FT := Lib.hid (fits_any w.heap.size [(A, n, c, a)] (w.alloc (.cells #[.slice A n c] 26)) (lists_one h (by omega)) (by simp))
  have e1 : decide (∀ x ∈ [(A, n, c, a)], natV x.2.2.2 < pw 8192) = true := by simpa using ha
  rw [e1] at FT
  have CA := Lib.hid (core_sl A n c a _ (h.alloc (.cells #[.slice A n c] 26)) (by omega))
  have b1 := Lib.hid (below_new w (.cells #[.slice A n c] 26))
  have HA := Lib.hid (h.alloc (.cells #[.slice A n c] 26))
  obtain ⟨V, R, hV⟩ : ∃ V R, natV a / pw s = V ∧ decide (natV a % pw s ≠ 0) = R := ⟨_, _, rfl, rfl⟩
  replace hV := Lib.hid hV
  have s0' : ¬ s < 0 := by omega
  clear e1 h
  go_enter Tryd.func33, Tryd.ntmps33
  go_wp2_with fail
  refine FT.out.mono ?_
  rintro e w1 ⟨rfl, rfl⟩
  go_wp2_with fail
  refine CA.out.mono ?_
  rintro e w1 ⟨k, kn, nk, ek, rfl, rfl⟩
  have SA := Lib.hid (HA.out.take kn)
  replace hV := Lib.hid (show natV (a.take k) / pw s = V ∧ decide (natV (a.take k) % pw s ≠ 0) = R by rw [ek]; exact hV.out)
  generalize w.alloc (.cells #[.slice A n c] 26) = W at *
  clear HA FT CA ek ha
  have kb : k ≤ 3000 := by omega
  have kb' : (k : Int) ≤ 3000 := by omega
  generalize a.take k = x at *
  obtain ⟨j, hj⟩ : ∃ j : Nat, s / 32 = (j : Int) := ⟨(s / 32).toNat, by omega⟩
  obtain ⟨t, ht⟩ : ∃ t, s % 32 = t := ⟨_, rfl⟩
  have t0 : 0 ≤ t := by omega
  have t1 : t ≤ 31 := by omega
  have es := Lib.hid (show s = 32 * (j : Int) + t by omega)
  by_cases hjk : k ≤ j
  · have hjk' : (k : Int) ≤ (j : Int) := by omega
    have x0 := natV_nonneg SA.out.lim
    have xl := natV_lt SA.out.lim
    rw [SA.out.len] at xl
    have pm := pw_mono (a := 32 * (k : Int)) (b := s) (by omega) (by have := es.out; omega)
    have fin : Hid (NatMBPost w (.returned (.tuple #[.slice none 0 0, .bool (decide (0 < k)), .int .i64 0])) W) := by
      exact ⟨_, _, _, _, _, rfl, Mine.nil, b1.out⟩
    clear SA nk hV xl x0 pm
    go_wp2
    go_ret3
    exact fin.out
  · have hjk' : (j : Int) < (k : Int) := by omega
    have SM := shr_math SA.out.lim t0 t1 es.out (by rw [SA.out.len]; omega)
    rcases SA.out.rd with z | ⟨bb, oo, rfl, hbb, hc⟩
    · omega
    have cell := hc j (by rw [SA.out.len]; omega)
    rw [← digV_lt] at cell
    have sl := shl_left (c := digV x j) t0 t1
    obtain ⟨d0, d1⟩ := digV_limb SA.out.lim j
    obtain ⟨P, hP⟩ : ∃ P, digV x j * pw (32 - t) = P := ⟨_, rfl⟩
    rw [hP] at sl
    have hx : digV x j * 2 ^ (32 - t).toNat = P := by rw [pw_eq]; exact hP
    have wt : IntKind.i64.wrap (32 - t) = 32 - t := by rw [IntKind.wrap_i64]; omega
    have tt : 0 ≤ 32 - t := by omega
    generalize digV x j = D at *
    clear hP
    have LX := Lib.hid SA.out.len
    have hc := Lib.hid hc
    have SM := Lib.hid SM
    have SL := Lib.hid sl
    have nt := Lib.hid (fun i => natV_take_dig x i)
    have lims := Lib.hid SA.out.lim
    go_wp2
    go_loopw [9, 39] (fun lv ii wx => ∃ i : Nat, ∃ L : Bool, ii = .int .i64 (i : Int) ∧ lv = .bool L ∧ i ≤ j ∧ Hid (L = true ↔ (natV (x.take i) ≠ 0 ∨ D % pw t ≠ 0)) ∧ ∃ q, W.drewN q = wx) (fun _ ii _ => j - (intOf ii).toNat)
    case atStart => exact ⟨0, _, rfl, rfl, by omega, by
        unfold Hid; rw [List.take_zero, show natV [] = 0 from rfl, bne_iff_ne]
        constructor
        · intro z; exact .inr fun y => z (SL.out.2 y)
        · rintro (z | z)
          · exact absurd rfl z
          · exact fun y => z (SL.out.1 y), 0, rfl⟩
    case round =>
      obtain ⟨i, L, rfl, rfl, hi, hL, q, rfl⟩ := hrel
      clear cell hx wt
      by_cases hlt : i < j
      · have hlt' : (i : Int) < (j : Int) := by omega
        have i0 : (0 : Int) ≤ (i : Int) := by omega
        have ik : (i : Int) < (k : Int) := by omega
        have cell := hc.out i (by rw [LX.out]; omega)
        rw [← digV_lt] at cell
        have nt1 := nt.out i
        obtain ⟨y0, y1⟩ := digV_limb lims.out i
        have z0 := natV_nonneg (limbs_take lims.out i)
        have pp := pw_pos (32 * (i : Int))
        cases L
        · have hf : natV (x.take i) = 0 ∧ D % pw t = 0 := by
            have := hL.out
            simp only [Bool.false_eq_true, ne_eq, false_iff, not_or, Decidable.not_not] at this
            exact this
          have nx : Hid ((digV x i != 0) = true ↔ (natV (x.take (i + 1)) ≠ 0 ∨ D % pw t ≠ 0)) := by
            unfold Hid; rw [nt1, hf.1, hf.2, bne_iff_ne, Int.zero_add]
            constructor
            · intro z; exact .inl fun y => by rcases Int.mul_eq_zero.1 y with u | u <;> omega
            · rintro (z | z)
              · exact fun y => z (by rw [y, Int.mul_zero])
              · exact absurd rfl z
          generalize digV x i = Y at *
          clear hL hf nt1 z0 pp hc nt SM SL lims
          go_wp2
          go_roundw
          case rel => exact ⟨i + 1, _, by go_num, rfl, by omega, nx, _, rfl⟩
          case measure => simp [intOf]; omega
        · have nx : Hid (true = true ↔ (natV (x.take (i + 1)) ≠ 0 ∨ D % pw t ≠ 0)) := by
            unfold Hid
            refine ⟨fun _ => ?_, fun _ => rfl⟩
            rcases hL.out.1 rfl with u | u
            · have := Int.mul_nonneg (Int.le_of_lt pp) y0
              exact .inl (by omega)
            · exact .inr u
          generalize digV x i = Y at *
          clear hL nt1 z0 pp hc nt SM SL lims
          go_wp2
          go_roundw
          case rel => exact ⟨i + 1, true, by go_num, rfl, by omega, nx, _, rfl⟩
          case measure => simp [intOf]; omega
      · obtain rfl : i = j := by omega
        have hge : ¬ (i : Int) < (i : Int) := by omega
        have SD := (SA.out.drewN q).drop (show i ≤ k by omega)
        have TR := Lib.hid (ntrim_row _ (k - i) (c - i) (x.drop i) (W.drewN q) SD (by omega))
        have eL : L = R := by
          rw [← hV.out.2]
          have e := SM.out.2
          have f := hL.out
          cases L
          · symm
            rw [decide_eq_false_iff_not]
            intro z
            apply z
            rw [e]
            simp only [Bool.false_eq_true, ne_eq, false_iff, not_or, Decidable.not_not] at f
            exact f
          · symm
            rw [decide_eq_true_iff]
            intro z
            rw [e] at z
            rcases f.1 rfl with u | u
            · exact u z.1
            · exact u z.2
        subst eL
        have eV := Lib.hid (show natV (x.drop i) / pw t = V by rw [SM.out.1]; exact hV.out.1)
        have ki : (i : Int) ≤ (k : Int) := by omega
        have kc := SA.out.cap
        have ci : i < c := by omega
        have ci2 : (i : Int) < (c : Int) := by omega
        have ci3 : ¬ c = i := by omega
        have ci4 : ¬ c - i = 0 := by omega
        have wsz := Lib.hid b1.out.size
        clear SD hL SM SL hc nt lims hV SA
        go_wp2_with fail
        refine TR.out.mono ?_
        rintro e w3 ⟨N, y, yn, rfl, hown, yl, yN, yv, hb3⟩
        have DN := Lib.hid (ndown_any _ N y t w3 (own_of hown) yl (by omega) t0 t1)
        have Nb : (N : Int) ≤ 3000 := by omega
        have B3 := Lib.hid ((below_drewN b1.out q).trans (hb3.mono b1.out.size))
        rw [yv] at DN
        clear TR hown yl yN yv hb3
        go_wp2_with fail
        refine DN.out.mono ?_
        rintro e w4 ⟨o, rfl, ho, ol, ov, only⟩
        have SO := row_sl ho ol
        have CO := Lib.hid (core_sl _ N N o w4 SO (by omega))
        have SO := Lib.hid SO
        have MN := Lib.hid (fun i2 (h : i2 ≤ N) => mine_own (w := w) (o := o) (k := i2) (ho.row (Nat.le_refl _)) ol wsz.out h (by omega))
        have B4 := Lib.hid (B3.out.trans (only.below wsz.out))
        have ov := Lib.hid (ov.trans eV.out)
        clear DN ho ol only B3
        go_wp2_with fail
        refine CO.out.mono ?_
        rintro e w5 ⟨i2, iN, ni, ei, rfl, rfl⟩
        have fin : Hid (NatMBPost w (.returned (.tuple #[.slice (some ⟨(W.drewN q).heap.size, 0, none⟩) i2 N, .bool L, .int .i64 0])) w4) :=
          ⟨_, _, _, _, _, rfl, MN.out i2 iN, B4.out⟩
        clear ni ei CO SO
        go_wp2
        go_ret3
        exact fin.out
end Go.Proofs.YtmjidpkddiinaaaDoor

/-
  Package nat: Shl: what it hands back is its own.
-/
namespace Go.Proofs.YtmjidpkddiinaaaDoor
open Go.RowKit Go.Shelf

set_option maxRecDepth 100000 in
set_option maxHeartbeats 4000000 in
theorem nshl_m (A : Option Addr) (n c : Nat) (a : List Int) (s : Int) (w : World) (h : Sl w w.heap.size A n c a) (hn : n ≤ 2000) (s0 : 0 ≤ s) (hb : natV a * pw s < pw 8192) :
    Calls Tryd.prog 31 #[.slice A n c, .int .i64 s] w (NatMPost w) := by
  have LN := Lib.hid (natlen_sl A n c a w h (by omega))
  have CO := Lib.hid (core_sl A n c a w h (by omega))
  have H := Lib.hid h
  have s0' : ¬ s < 0 := by omega
  have HB := Lib.hid hb
  clear h hb
  by_cases z : natV a = 0
  · have fin : Hid (NatMPost w (.returned (.tuple #[.slice none 0 0, .int .i64 0])) w) := by
      exact NatMPost.nil (Below.refl _ _)
    have LZ := Lib.hid (natlen_zero A n c a w H.out (by omega) z)
    go_enter Tryd.func31, Tryd.ntmps31
    go_wp2_with fail
    refine LZ.out.mono ?_
    rintro e w1 ⟨rfl, rfl⟩
    go_wp2
    go_ret2
    exact fin.out
  · have a0 := natV_nonneg H.out.lim
    have zz := Lib.hid (show natV a ≠ 0 from z)
    obtain ⟨j, hj⟩ : ∃ j : Nat, s / 32 = (j : Int) := ⟨(s / 32).toNat, by omega⟩
    obtain ⟨t, ht⟩ : ∃ t : Int, s % 32 = t := ⟨_, rfl⟩
    have t0 : 0 ≤ t := by omega
    have t1 : t ≤ 31 := by omega
    have es : Hid (pw (32 * (j : Int)) * (natV a * pw t) = natV a * pw s) := by
      unfold Hid
      rw [← Int.mul_assoc, ← ht]; exact shl_eq hj
    clear z
    go_enter Tryd.func31, Tryd.ntmps31
    go_wp2_with fail
    refine LN.out.mono ?_
    rintro e w1 ⟨k, hk, kb, rfl, rfl⟩
    have k1 : 1 ≤ k := by
      rcases Nat.eq_zero_or_pos k with c | c
      · subst c
        have := hk.lt
        rw [show pw ((0 : Nat) : Int) = 1 from rfl] at this
        have := zz.out; omega
      · exact c
    have ks : (k : Int) + s ≤ 8192 := by
      have g := hk.ge zz.out
      have p := pw_pos s
      have q := Int.mul_le_mul_of_nonneg_right g (Int.le_of_lt p)
      rw [← pw_add _ _ (by omega) s0, Int.mul_assoc] at q
      have r : pw ((k : Int) + s) < pw 8193 := by
        have : pw 8193 = 2 * pw 8192 := pw_half 8193 (by decide)
        have := HB.out; omega
      have := pw_inj_le (by decide) r
      omega
    have kz : ((k : Int) == 0) = false := by simp; omega
    clear hk LN
    go_wp2_with fail
    refine CO.out.mono ?_
    rintro e w1 ⟨m, mn, nm, em, rfl, rfl⟩
    have UP := Lib.hid (nup_row A m c (a.take m) t w (H.out.take mn) (by omega) t0 t1)
    rw [em] at UP
    have mb : m ≤ 2000 := by omega
    clear CO H nm em
    go_wp2_with fail
    refine UP.out.mono ?_
    rintro e w1 ⟨o, rfl, hown, ol, ov, hb1⟩
    have ob := Lib.hid (row_sl hown ol)
    obtain ⟨N, hN⟩ : ∃ N, m + 1 + j = N := ⟨_, rfl⟩
    have eN : (m : Int) + 1 + (j : Int) = (N : Int) := by omega
    have EN := Lib.hid eN
    have NN := Lib.hid hN
    have jb : j ≤ 256 := by omega
    have bN : N ≤ 3000 := by omega
    have spl := Lib.hid (splice_up N j o (by rw [ob.out.len]; omega))
    have res : Hid (natV (List.replicate j 0 ++ o) = natV a * pw s ∧ ∀ t ∈ List.replicate j 0 ++ o, Limb t) := ⟨by rw [natV_up, ov]; exact es.out, fun t ht => by
      rcases List.mem_append.1 ht with h | h
      · exact limbs_rep j t h
      · exact ol t h⟩
    have hb1 := Lib.hid hb1
    clear UP hown ol ov hN eN es
    have jN : (j : Int) < (N : Int) := by have := EN.out; omega
    have jN' : j < N := by omega
    go_wp2_with (at_make; go_loud (refine wpList_mkN rfl _ _ rfl w1.heap.size _ _ N rfl rfl EN.out EN.out (by omega) (Nat.le_refl _) ?_); intro w2 hown2 hb2 hz2; obtain ⟨w3, hrun, hown3, hb3⟩ := copyN_run w1.heap.size w1.heap.size N j (N - j) (N - j) _ (some ⟨w.heap.size, 0, none⟩) (m + 1) (m + 1) o hown2 w1.heap.size (ob.out.below hb2) (by have := NN.out; omega) (by have := NN.out; omega); have hown2 := Lib.hid hown2; have hb3 := Lib.hid hb3; have hown3 := Lib.hid hown3.out)
    have hown4 : w3.ownsRow w1.heap.size 66 1 (.slice (some ⟨w1.heap.size, 0, none⟩) N N) N ((List.replicate j 0 ++ o).map (Value.int .u32)) := by rw [← spl.out]; exact hown3.out
    have sl := row_sl hown4 res.out.2
    have CO := Lib.hid (core_sl _ N N _ w3 sl (by omega))
    have b12 : Below w1.heap.size w1 w3 := hb2.trans hb3.out
    have bb : Below w.heap.size w w3 := hb1.out.trans (b12.mono hb1.out.size)
    have FIN : Hid (∀ k2 : Nat, k2 ≤ N → Norm ((List.replicate j 0 ++ o).take k2) → natV ((List.replicate j 0 ++ o).take k2) = natV (List.replicate j 0 ++ o) → NatMPost w (.returned (.tuple #[.slice (some ⟨w1.heap.size, 0, none⟩) k2 N, .int .i64 0])) w3) := fun k2 h1 h2 h3 => NatMPost.mk (mine_own hown4 res.out.2 hb1.out.size h1 (by omega)) bb
    clear hown4 sl b12 bb res spl hown3 hrun hb2 hb3 ob
    refine CO.out.mono ?_
    rintro e w4 ⟨k2, h1, h2, h3, rfl, rfl⟩
    have q := Lib.hid (FIN.out k2 h1 h2 h3)
    clear h2 h3 FIN CO
    go_wp2
    go_ret2
    exact q.out
end Go.Proofs.YtmjidpkddiinaaaDoor

/-
  Appends of a whole list; six lists of a call's own in a row, and a write into one of them.
-/
namespace Go.Proofs.YtmjidpkddiinaaaDoor
open Go.RowKit Go.Shelf

theorem wpList_appS {w : World} {ops : Array Oper} {rest : List Oper} {o : Oper} {a : Act} {Q : Exit → Act → World → Prop} (hgd : o.guard = none) (s x : Operand)
    (ho : o.op = .call { callee := .builtin .append, args := #[s, x], argTypes := #[22, 22] })
    (base : Nat) (v : Value) (n : Nat) (l : List Int) (hown : w.ownsRow base 66 1 v n (l.map (Value.int .u32))) (hs : a.eval s = v)
    (A : Option Addr) (m c : Nat) (news : List Int) (hx : a.eval x = .slice A m c) (hS : Sl w w.heap.size A m c news)
    (hb : n + m ≤ 2000000000) (hbase : base ≤ w.heap.size)
    (h : ∀ v' w', w'.ownsRow base 66 1 v' (n + m) ((l ++ news).map (Value.int .u32)) → Below base w w' → wpList Tryd.prog ops Q rest (a.put o.dst v') w') : wpList Tryd.prog ops Q (o :: rest) a w := by
  cases A with
  | none =>
    obtain ⟨rfl, rfl⟩ := hS.nil rfl
    obtain rfl : news = [] := List.eq_nil_of_length_eq_zero hS.len
    obtain ⟨i0, hi, _⟩ := info_parts Tryd.info71
    exact wpList_append_own_none hgd s x 22 ho base 66 i0 1 Tryd.underlying22 hi v n _ hs hown hx (h v w (by simpa using hown) (Below.refl _ _))
  | some ad =>
    refine wpList_app hgd s x ho base v n l hown hs ad m c news hx hS.len ?_ hb hbase h
    rcases hS.rd with h0 | ⟨b, o', e, hb', hc⟩
    · intro i hi; rw [hS.len] at hi; omega
    · intro i hi
      cases e
      rw [Addr.add_lit]; exact hc i hi
structure Six (wS wx : World) (g : Nat) (A : Nat → Option Addr) (n c : Nat → Nat) : Prop where
  gS : wS.heap.size ≤ g
  cells : ∀ i, i < 6 → wx.cell? ⟨g, i, none⟩ = some (.slice (A i) (n i) (c i))
  mine : ∀ i, i < 6 → Mine wS wx (A i) (n i)
  apart : ∀ i, i < 6 → ∀ b o, A i = some ⟨b, o, none⟩ → n i = 0 ∨ b < g
  below : Below wS.heap.size wS wx
theorem Mine.drewN {w w' : World} {A : Option Addr} {n : Nat} (h : Mine w w' A n) (q : Nat) : Mine w (w'.drewN q) A n := h
theorem Six.drewN {wS wx : World} {g : Nat} {A : Nat → Option Addr} {n c : Nat → Nat} (h : Six wS wx g A n c) (q : Nat) : Six wS (wx.drewN q) g A n c :=
  ⟨h.gS, h.cells, fun i hi => (h.mine i hi).drewN q, h.apart, below_drewN h.below q⟩
theorem Mine.set {w w' : World} {A : Option Addr} {n b o : Nat} {y : Int} (h : Mine w w' A n) (hy : Limb y) : Mine w (w'.setCell ⟨b, o, none⟩ (.int .u32 y)) A n := by
  refine ⟨h.1, ?_⟩
  rcases h.2 with h0 | ⟨g, rfl, h1, h2, h3, h4⟩
  · exact .inl h0
  · refine .inr ⟨g, rfl, h1, by simpa [World.setCell] using h2, fun j => by rw [World.frozen?_setCell]; exact h3 j, fun i hi => ?_⟩
    obtain ⟨x, hx, hc⟩ := h4 i hi
    by_cases e : (⟨b, o, none⟩ : Addr) = ⟨g, i, none⟩
    · refine ⟨y, hy, ?_⟩
      rw [e]
      exact World.cell?_setCell_same _ _ _ hc
    · exact ⟨x, hx, by rw [World.cell?_setCell_other _ _ _ _ e]; exact hc⟩
theorem Six.set {wS wx : World} {g : Nat} {A : Nat → Option Addr} {n c : Nat → Nat} (h : Six wS wx g A n c) {b o : Nat} {y : Int} (hy : Limb y) (hb : wS.heap.size ≤ b) (hg : b ≠ g) : Six wS (wx.setCell ⟨b, o, none⟩ (.int .u32 y)) g A n c :=
  ⟨h.gS, fun i hi => by rw [World.cell?_setCell_other _ _ _ _ (fun e => hg (by cases e; rfl))]; exact h.cells i hi, fun i hi => (h.mine i hi).set hy, h.apart, h.below.setCell hb _⟩
theorem Six.write {wS wx : World} {g : Nat} {A : Nat → Option Addr} {n c : Nat → Nat} (h : Six wS wx g A n c) (b o : Nat) {y : Int} (hy : Limb y) (hb : wS.heap.size ≤ b) (hg : b ≠ g) : Six wS ((wx.setCell ⟨b, o, none⟩ (.int .u32 y)).drew) g A n c := (h.set hy hb hg).drewN 1
/-- What a write at the limb k of the list i wants. -/
theorem Six.at {wS wx : World} {g : Nat} {A : Nat → Option Addr} {n c : Nat → Nat} (h : Six wS wx g A n c) {i k : Nat} (hi : i < 6) (hk : k < n i) :
    ∃ b x, A i = some ⟨b, 0, none⟩ ∧ wS.heap.size ≤ b ∧ b < g ∧ Limb x ∧ wx.cell? ⟨b, k, none⟩ = some (.int .u32 x) ∧ wx.frozen? ⟨b, k, none⟩ = false := by
  rcases (h.mine i hi).2 with h0 | ⟨b, e, h1, h2, h3, h4⟩
  · omega
  · obtain ⟨x, hx, hc⟩ := h4 k hk
    refine ⟨b, x, e, h1, ?_, hx, hc, h3 k⟩
    rcases h.apart i hi b 0 e with z | z
    · omega
    · exact z
def pick6 {α : Type} (a b c d e f : α) : Nat → α
  | 0 => a | 1 => b | 2 => c | 3 => d | 4 => e | _ => f
theorem six_start {wS w : World} {A0 A1 A2 A3 A4 A5 : Option Addr} {n0 n1 n2 n3 n4 n5 c0 c1 c2 c3 c4 c5 : Nat} (hb : Below wS.heap.size wS w)
    (h0 : Mine wS w A0 n0) (h1 : Mine wS w A1 n1) (h2 : Mine wS w A2 n2) (h3 : Mine wS w A3 n3) (h4 : Mine wS w A4 n4) (h5 : Mine wS w A5 n5) :
    Six wS (w.alloc (.cells #[.slice A0 n0 c0, .slice A1 n1 c1, .slice A2 n2 c2, .slice A3 n3 c3, .slice A4 n4 c4, .slice A5 n5 c5] 26)) w.heap.size (pick6 A0 A1 A2 A3 A4 A5) (pick6 n0 n1 n2 n3 n4 n5) (pick6 c0 c1 c2 c3 c4 c5) := by
  have b1 := below_new w (.cells #[.slice A0 n0 c0, .slice A1 n1 c1, .slice A2 n2 c2, .slice A3 n3 c3, .slice A4 n4 c4, .slice A5 n5 c5] 26)
  have ap : ∀ {A : Option Addr} {n : Nat}, Mine wS w A n → ∀ b o, A = some ⟨b, o, none⟩ → n = 0 ∨ b < w.heap.size := by
    intro A n h b o e
    rcases h.2 with z | ⟨g, e2, _, z, _⟩
    · exact .inl z
    · rw [e] at e2; cases e2; exact .inr z
  refine ⟨hb.size, ?_, ?_, ?_, hb.trans (b1.mono hb.size)⟩
  · intro i hi
    rw [World.cell?_alloc_at _ _ _ _ rfl]
    rcases i with _ | _ | _ | _ | _ | _ | i <;> first | rfl | omega
  · intro i hi
    rcases i with _ | _ | _ | _ | _ | _ | i
    · exact h0.on b1
    · exact h1.on b1
    · exact h2.on b1
    · exact h3.on b1
    · exact h4.on b1
    · exact h5.on b1
    · omega
  · intro i hi
    rcases i with _ | _ | _ | _ | _ | _ | i
    · exact ap h0
    · exact ap h1
    · exact ap h2
    · exact ap h3
    · exact ap h4
    · exact ap h5
    · omega
/-- A list with a one behind it is a greater number. -/
theorem natV_one_more {l : List Int} (hl : ∀ x ∈ l, Limb x) : natV l < natV (l ++ [1]) ∧ natV (l ++ [1]) < pw (32 * (l.length : Int) + 1) := by
  have a := natV_lt hl
  have a0 := natV_nonneg hl
  rw [natV_append, show natV [1] = 1 from rfl, Int.mul_one]
  rw [pw_succ _ (by omega)]
  omega
theorem canon_len {l : List UInt8} (h : Canon l) {n : Nat} (hv : dv l < pw (32 * (n : Int))) : l.length ≤ 10 * n + 1 := by
  obtain ⟨h1, h2, h3⟩ := h
  cases l with
  | nil => simp
  | cons b r =>
    rcases h3 with e | e
    · rw [e]; simp
    · have g := canon_ge h1 (by simpa using e)
      have := p10_limbs (m := r.length) (n := n) (by omega)
      simp; omega
end Go.Proofs.YtmjidpkddiinaaaDoor

