import Derived.Test.YtmjidpkddiinaaaDoorX3
import Derived.Deep.RegionWith
/-
  Package nat: Mul: walked.
-/
namespace Go.Proofs.YtmjidpkddiinaaaDoor
open Go.RowKit Go.Shelf

/-- A product in a row that is as long as both numbers together. -/
theorem mul_out {a b o : List Int} {N i : Nat} {cy : Int} (h : TimesIn a b N i b.length o cy) (hc : Limb cy) (hN : i + b.length < N) : TimesAt a b N (i + 1) (o.set (i + b.length) cy) := times_out h hc hN
set_option maxRecDepth 100000 in
set_option maxHeartbeats 4000000 in
theorem nmul_any (A B : Option Addr) (n m c d : Nat) (a b : List Int) (w : World) (h : Sl w w.heap.size A n c a) (h' : Sl w w.heap.size B m d b) (hn : n ≤ 3000) (hm : m ≤ 3000) (ha : natV a < pw 8192) (hb : natV b < pw 8192) :
    Calls Tryd.prog 27 #[.slice A n c, .slice B m d] w (NatRPost (overE (natV a * natV b)) (overV (natV a * natV b)) w) := by
  have FT := Lib.hid (fits_any w.heap.size [(A, n, c, a), (B, m, d, b)] (w.alloc (.cells #[.slice A n c, .slice B m d] 26)) (lists_two h (by omega) h' (by omega)) (by simp))
  have e1 : decide (∀ x ∈ [(A, n, c, a), (B, m, d, b)], natV x.2.2.2 < pw 8192) = true := by simp; exact ⟨ha, hb⟩
  rw [e1] at FT
  have CA := Lib.hid (core_sl A n c a _ (h.alloc (.cells #[.slice A n c, .slice B m d] 26)) (by omega))
  have CB := Lib.hid (core_sl B m d b _ (h'.alloc (.cells #[.slice A n c, .slice B m d] 26)) (by omega))
  have b1 := Lib.hid (below_new w (.cells #[.slice A n c, .slice B m d] 26))
  have HA := Lib.hid (h.alloc (.cells #[.slice A n c, .slice B m d] 26))
  have HB := Lib.hid (h'.alloc (.cells #[.slice A n c, .slice B m d] 26))
  clear e1 h h'
  go_enter Tryd.func27, Tryd.ntmps27
  go_wp2_with fail
  refine FT.out.mono ?_
  rintro e w1 ⟨rfl, rfl⟩
  go_wp2_with fail
  refine CA.out.mono ?_
  rintro e w1 ⟨k, kn, nk, ek, rfl, rfl⟩
  go_wp2_with fail
  refine CB.out.mono ?_
  rintro e w1 ⟨j, jm, nj, ej, rfl, rfl⟩
  have SA := Lib.hid (HA.out.take kn)
  have SB := Lib.hid (HB.out.take jm)
  have la : (a.take k).length = k := SA.out.len
  have lb : (b.take j).length = j := SB.out.len
  have res : Hid (∀ (A2 : Option Addr) (n2 c2 : Nat) (l2 : List Int) (w2 : World), Sl w2 w2.heap.size A2 n2 c2 l2 → Norm l2 → natV l2 = natV (a.take k) * natV (b.take j) → natV l2 < pw 8192 → Fresh w.heap.size A2 → Below w.heap.size w w2 → NatRPost (overE (natV a * natV b)) (overV (natV a * natV b)) w (.returned (.tuple #[.slice A2 n2 c2, .int .i64 0])) w2) := fun A2 n2 c2 l2 w2 h1 h2 h3 h0 h4 h5 => by
    have e : natV l2 = natV a * natV b := by rw [h3, ek, ej]
    rw [e] at h0
    rw [(over_ok h0).1, (over_ok h0).2]
    exact NatRPost.mk h1 h2 e h4 h5
  have bad : Hid (∀ (w2 : World), pw 8192 ≤ natV (a.take k) * natV (b.take j) → Below w.heap.size w w2 → NatRPost (overE (natV a * natV b)) (overV (natV a * natV b)) w (.returned (.tuple #[.slice none 0 0, .int .i64 2])) w2) := fun w2 h0 h5 => by
    rw [ek, ej] at h0
    rw [(over_no h0).1, (over_no h0).2]
    exact NatRPost.nil h5
  generalize w.alloc (.cells #[.slice A n c, .slice B m d] 26) = W at *
  clear HA HB FT CA CB nk ek nj ej
  have kb : k ≤ 3000 := by omega
  have jb : j ≤ 3000 := by omega
  obtain ⟨N, hN⟩ : ∃ N, k + j = N := ⟨_, rfl⟩
  have EN := Lib.hid (show (k : Int) + (j : Int) = (N : Int) by omega)
  have HN := Lib.hid hN
  have bN : N ≤ 6000 := by omega
  generalize a.take k = x at *
  generalize b.take j = y at *
  clear hN
  go_wp2_with (at_make; go_loud (refine wpList_mkN rfl _ _ rfl W.heap.size _ _ N rfl rfl EN.out EN.out (by omega) (Nat.le_refl _) ?_); intro w1 hown1 hb1 hz1)
  have s0 : Hid (TimesAt x y N 0 (List.replicate N 0)) := ⟨by simp, limbs_rep _, by rw [natV_rep]; simp [natV], fun t _ => by
    rcases Nat.lt_or_ge t (List.replicate N (0 : Int)).length with c1 | c1
    · rw [digV_lt c1]; simp
    · exact digV_ge c1⟩
  have dx := Lib.hid (digV_limb SA.out.lim); have dy := Lib.hid (digV_limb SB.out.lim)
  have LA := Lib.hid la; have LB := Lib.hid lb
  have wsz := Lib.hid b1.out.size
  have fin : Hid (∀ o, TimesAt x y N k o → natV o = natV x * natV y) := fun o h => by rw [h.v, natV_take_all (by rw [la]; omega)]
  have kb' : (k : Int) ≤ 3000 := by omega
  have jb' : (j : Int) ≤ 3000 := by omega
  clear la lb
  go_loopw [29] (fun i wr => ∃ t : Nat, ∃ o : List Int, i = .int .i64 (t : Int) ∧ t ≤ k ∧ wr.ownsRow W.heap.size 66 1 (.slice (some ⟨W.heap.size, 0, none⟩) N N) N (o.map (Value.int .u32)) ∧ Below W.heap.size W wr ∧ W.heap.size < wr.heap.size ∧ TimesAt x y N t o) (fun i _ => k - (intOf i).toNat)
  case atStart => exact ⟨0, _, rfl, by omega, hown1, hb1, hz1, s0.out⟩
  case round =>
    obtain ⟨t, o, rfl, ht, hown, hB, hz, hP⟩ := hrel
    clear hown1 hb1 hz1 s0
    by_cases hlt : t < k
    · have hlt' : (t : Int) < (k : Int) := by omega
      have hP := Lib.hid hP
      have HO := Lib.hid hown
      clear hown
      go_upto_block 2 with fail
      go_cut [10] (fun v wx => ∃ cy : Int, ∃ o : List Int, v = .int .u64 cy ∧ 0 ≤ cy ∧ cy < 4294967296 ∧ wx.ownsRow W.heap.size 66 1 (.slice (some ⟨W.heap.size, 0, none⟩) N N) N (o.map (Value.int .u32)) ∧ Below W.heap.size W wx ∧ W.heap.size < wx.heap.size ∧ TimesIn x y N t j o cy)
      case first =>
        go_wp2_with fail
        go_loopw [10, 34] (fun v kk wx => ∃ q : Nat, ∃ cy : Int, ∃ o : List Int, kk = .int .i64 (q : Int) ∧ v = .int .u64 cy ∧ q ≤ j ∧ 0 ≤ cy ∧ cy < 4294967296 ∧ wx.ownsRow W.heap.size 66 1 (.slice (some ⟨W.heap.size, 0, none⟩) N N) N (o.map (Value.int .u32)) ∧ Below W.heap.size W wx ∧ W.heap.size < wx.heap.size ∧ TimesIn x y N t q o cy) (fun _ kk _ => j - (intOf kk).toNat)
        case atStart => exact ⟨0, 0, o, rfl, rfl, by omega, by decide, by decide, HO.out, hB, hz, times_in hP.out⟩
        case round =>
          obtain ⟨q, cy, o, rfl, rfl, hk, c0, c1, hown, hB, hz, hI⟩ := hrel
          clear HO hP
          by_cases hkm : q < j
          · have HAw := (SA.out.below hB)
            have HBw := (SB.out.below hB)
            rcases HAw.rd with hz1 | ⟨b1, o1, rfl, hb1, hc1⟩
            · omega
            rcases HBw.rd with hz2 | ⟨b2, o2, rfl, hb2, hc2⟩
            · omega
            obtain ⟨g, hg⟩ : ∃ g, t + q = g := ⟨_, rfl⟩
            have gN : g < N := by have := HN.out; omega
            have cell1 := hc1 t (by rw [LA.out]; exact hlt)
            have cell2 := hc2 q (by rw [LB.out]; exact hkm)
            have cell3 := row_cell hown g gN
            have fr : World.frozen? _ ⟨W.heap.size, g, none⟩ = false := hown.frozenAt g
            rw [← digV_lt] at cell1 cell2
            obtain ⟨x0, x1⟩ := dx.out t
            obtain ⟨y0, y1⟩ := dy.out q
            obtain ⟨p0, p1⟩ := mul_limb (dx.out t) (dy.out q)
            obtain ⟨z0, z1⟩ := digV_limb hI.lim g
            have stp := Lib.hid (times_step (s := digV x t * digV y q + digV o g + cy) hI (by rw [LB.out]; exact hkm) (by rw [hg]; exact gN) (by rw [hg]))
            rw [hg] at stp
            have ej : (t : Int) + (q : Int) = (g : Int) := by omega
            have jN : (g : Int) < (N : Int) := by omega
            have j0 : (0 : Int) ≤ (g : Int) := by omega
            have hkm' : (q : Int) < (j : Int) := by omega
            have k0 : (0 : Int) ≤ (q : Int) := by omega
            have tt0 : (0 : Int) ≤ (t : Int) := by omega
            have Hown := Lib.hid hown
            generalize hp : digV x t * digV y q = p at *
            generalize digV x t = X at *
            generalize digV y q = Y at *
            generalize digV o g = z at *
            have wj : IntKind.i64.wrap ((t : Int) + (q : Int)) = (g : Int) := by rw [ej, IntKind.wrap_i64]; omega
            have w1 : IntKind.u64.wrap p = p := by rw [IntKind.wrap_u64]; omega
            have w2 : IntKind.u64.wrap (p + z) = p + z := by rw [IntKind.wrap_u64]; omega
            have w3 : IntKind.u64.wrap (cy + (p + z)) = cy + (p + z) := by rw [IntKind.wrap_u64]; omega
            have q0 : 0 ≤ cy + (p + z) := by omega
            clear hc1 hc2 HAw HBw SA SB dx dy LA LB hI hown hg
            go_wp2
            go_quiet (fail)
            have Hset := Lib.hid (fun v => row_set (row_drewN Hown.out nq) g v)
            go_wp2
            go_roundw
            case rel => exact ⟨q + 1, _, _, by go_num, rfl, by omega, by omega, by omega, Hset.out _, (below_drewN hB _).setCell (Nat.le_refl _) _, by simpa [World.setCell] using hz, by
              have e := stp.out
              rw [show p + z + cy = cy + (p + z) by omega] at e
              exact e⟩
            case measure => simp [intOf]; omega
          · obtain rfl : q = j := by omega
            have hge : ¬ (q : Int) < (q : Int) := by omega
            have hI := Lib.hid hI
            have hown := Lib.hid hown
            clear SA SB dx dy LA LB
            go_wp2
            go_meet
            exact ⟨cy, o, rfl, c0, c1, hown.out, hB, hz, hI.out⟩
      case rest =>
        obtain ⟨cy, o, rfl, c0, c1, hown, hB, hz, hI⟩ := hcut
        obtain ⟨g, hg⟩ : ∃ g, t + j = g := ⟨_, rfl⟩
        have gN : g < N := by have := HN.out; omega
        have ej : (t : Int) + (j : Int) = (g : Int) := by omega
        have jN : (g : Int) < (N : Int) := by omega
        have g0 : (0 : Int) ≤ (g : Int) := by omega
        have cell := row_cell hown g gN
        have fr : World.frozen? _ ⟨W.heap.size, g, none⟩ = false := hown.frozenAt g
        have step := Lib.hid (times_out (by rw [LB.out]; exact hI) (show Limb cy from ⟨c0, c1⟩) (by rw [LB.out]; omega))
        rw [LB.out, hg] at step
        have Hown := Lib.hid (row_set hown g cy)
        have wj : IntKind.i64.wrap ((t : Int) + (j : Int)) = (g : Int) := by rw [ej, IntKind.wrap_i64]; omega
        generalize digV o g = z at *
        clear SA SB dx dy LA LB hI hown hg HO hP fin
        go_wp2
        go_roundw
        case rel => exact ⟨t + 1, _, by go_num, by omega, Hown.out, hB.setCell (Nat.le_refl _) _, by simpa [World.setCell] using hz, step.out⟩
        case measure => simp [intOf]; omega
    · obtain rfl : t = k := by omega
      have ev := fin.out o hP
      have lim := hP.lim
      have BD := Lib.hid (bounded_sl _ N N o _ (row_sl hown lim) (by omega))
      have FIN : Hid (∀ (k2 : Nat) (w3 : World), k2 ≤ N → Norm (o.take k2) → natV (o.take k2) = natV o → natV o < pw 8192 → Below _ _ w3 → _) := fun k2 w3 h1 h2 h3 h0 h4 => res.out (some ⟨W.heap.size, 0, none⟩) k2 N (o.take k2) w3 (((row_sl hown lim).take h1).on h4) h2 (by rw [h3, ev]) (by rw [h3]; exact h0) (fun ad e => by cases e; exact wsz.out) ((b1.out.trans (hB.mono wsz.out)).trans (h4.mono (Nat.le_trans wsz.out (Nat.le_of_lt hz))))
      have BAD : Hid (∀ (w3 : World), pw 8192 ≤ natV o → Below _ _ w3 → _) := fun w3 h0 h4 => bad.out w3 (by rw [← ev]; exact h0) ((b1.out.trans (hB.mono wsz.out)).trans (h4.mono (Nat.le_trans wsz.out (Nat.le_of_lt hz))))
      have hge : ¬ (t : Int) < (t : Int) := by omega
      clear dx dy hP hown fin res bad SA SB lim ev LA LB
      go_wp2_with fail
      refine BD.out.mono ?_
      rintro e w3 ⟨hb3, hy, hn3⟩
      rcases Int.lt_or_le (natV o) (pw 8192) with ov | ov
      · obtain ⟨k2, h1, h2, h3, rfl⟩ := hy ov
        have q := Lib.hid (FIN.out k2 w3 h1 h2 h3 ov hb3)
        clear h2 h3 hb3 FIN BAD ov hy hn3
        go_wp2
        go_ret2
        exact q.out
      · obtain rfl := hn3 ov
        have q := Lib.hid (BAD.out w3 ov hb3)
        clear hb3 FIN BAD ov hy hn3
        go_wp2
        go_ret2
        exact q.out
end Go.Proofs.YtmjidpkddiinaaaDoor

/-
  One row alone is changed; math/bits.Add32, Mul32; package nat: divideShort, shiftDown: walked.
-/
namespace Go.Proofs.YtmjidpkddiinaaaDoor
open Go.RowKit Go.Shelf

/-- All the rest of the memory is as it was. -/
structure Only (g : Nat) (w w' : World) : Prop where
  os : w'.os = w.os
  tape : w'.tape = w.tape
  output : w'.output = w.output
  size : w'.heap.size = w.heap.size
  block : ∀ k, k ≠ g → w'.heap[k]? = w.heap[k]?
theorem Only.refl (g : Nat) (w : World) : Only g w w := ⟨rfl, rfl, rfl, rfl, fun _ _ => rfl⟩
theorem Only.trans {g : Nat} {a b c : World} (h : Only g a b) (k : Only g b c) : Only g a c :=
  ⟨k.os.trans h.os, k.tape.trans h.tape, k.output.trans h.output, k.size.trans h.size, fun i hi => (k.block i hi).trans (h.block i hi)⟩
theorem Only.setCell {g : Nat} {a w : World} (h : Only g a w) (o : Nat) (u : Value) : Only g a (w.setCell ⟨g, o, none⟩ u) :=
  h.trans ⟨rfl, rfl, rfl, by simp [World.setCell], fun k hk => Below.heap_setCell w _ u k hk⟩
theorem Only.drewN {g : Nat} {a w : World} (h : Only g a w) (n : Nat) : Only g a (w.drewN n) := ⟨h.os, h.tape, h.output, h.size, h.block⟩
theorem Only.below {g B : Nat} {a w : World} (h : Only g a w) (hB : B ≤ g) : Below B a w := ⟨h.os, h.tape, h.output, by rw [h.size]; exact Nat.le_refl _, fun k hk => h.block k (by omega)⟩
/-- A row of limbs of the call's own. -/
def Own (w : World) (g N : Nat) (o : List Int) : Prop := w.ownsRow g 66 1 (.slice (some ⟨g, 0, none⟩) N N) N (o.map (Value.int .u32))
theorem own_of {w : World} {base g N : Nat} {o : List Int} (h : w.ownsRow base 66 1 (.slice (some ⟨g, 0, none⟩) N N) N (o.map (Value.int .u32))) : Own w g N o := by
  obtain ⟨_, h2, h3, h4⟩ := row_heap h
  exact heap_row (Nat.le_refl _) h2 h3 h4
theorem Own.row {w : World} {base g N : Nat} {o : List Int} (h : Own w g N o) (hb : base ≤ g) : w.ownsRow base 66 1 (.slice (some ⟨g, 0, none⟩) N N) N (o.map (Value.int .u32)) := by
  obtain ⟨_, h2, h3, h4⟩ := row_heap h
  exact heap_row hb h2 h3 h4
theorem Own.len {w : World} {g N : Nat} {o : List Int} (h : Own w g N o) : o.length = N := (row_heap h).2.1
theorem Own.only {w w' : World} {g g' N : Nat} {o : List Int} (h : Own w g N o) (k : Only g' w w') (hg : g ≠ g') : Own w' g N o := by
  obtain ⟨h1, h2, h3, h4⟩ := row_heap h
  exact heap_row h1 h2 h3 (by rw [k.block g hg]; exact h4)
theorem Own.below {w w' : World} {g N B : Nat} {o : List Int} (h : Own w g N o) (k : Below B w w') (hg : g < B) : Own w' g N o := by
  obtain ⟨h1, h2, h3, h4⟩ := row_heap h
  exact heap_row h1 h2 h3 (by rw [k.block g hg]; exact h4)
theorem Own.lt {w : World} {g N : Nat} {o : List Int} (h : Own w g N o) : g < w.heap.size := row_lt h
theorem natV_take_zero {l : List Int} {m : Nat} (h : ∀ t : Nat, m ≤ t → digV l t = 0) : natV (l.take m) = natV l :=
  natV_core fun i hi hl => by rw [← digV_lt hl]; exact h i hi

theorem add32_any (x y b : Int) (hx : Limb x) (hy : Limb y) (b0 : 0 ≤ b) (b1 : b ≤ 1) (w : World) :
    Calls Tryd.prog 74 #[.int .u32 x, .int .u32 y, .int .u32 b] w fun e w' => e = .returned (.tuple #[.int .u32 ((x + y + b) % 4294967296), .int .u32 ((x + y + b) / 4294967296)]) ∧ w = w' := by
  obtain ⟨x0, x1⟩ := hx
  obtain ⟨y0, y1⟩ := hy
  have w1 : IntKind.u64.wrap (x + y) = x + y := by rw [IntKind.wrap_u64]; omega
  have w2 : IntKind.u64.wrap (x + y + b) = x + y + b := by rw [IntKind.wrap_u64]; omega
  obtain ⟨s, hs⟩ : ∃ s, x + y + b = s := ⟨_, rfl⟩
  have s0 : 0 ≤ s := by omega
  have s1 : s ≤ 8589934591 := by omega
  go_enter Tryd.func74, Tryd.ntmps74
  go_wp2
  go_ret2
  exact ⟨by first | rfl | (rw [hs]; rfl), rfl⟩
theorem mul32_any (x y : Int) (hx : Limb x) (hy : Limb y) (w : World) :
    Calls Tryd.prog 73 #[.int .u32 x, .int .u32 y] w fun e w' => e = .returned (.tuple #[.int .u32 (x * y / 4294967296), .int .u32 (x * y % 4294967296)]) ∧ w = w' := by
  obtain ⟨p0, p1⟩ := mul_limb hx hy
  obtain ⟨x0, x1⟩ := hx
  obtain ⟨y0, y1⟩ := hy
  generalize hp : x * y = p at *
  have w1 : IntKind.u64.wrap p = p := by rw [IntKind.wrap_u64]; omega
  have h1 : p / 4294967296 < 4294967296 := by omega
  have h0 : 0 ≤ p / 4294967296 := by omega
  go_enter Tryd.func73, Tryd.ntmps73
  go_wp2
  go_ret2
  exact ⟨rfl, rfl⟩

theorem or_limb' {r x : Int} (hr : Limb r) (hx : Limb x) : bits .or .u64 x (r * 4294967296) = x + r * 4294967296 := by
  obtain ⟨r0, r1⟩ := hr
  obtain ⟨x0, x1⟩ := hx
  exact or_nat (j := 32) (by omega) (by omega) x0 (show x < 4294967296 from x1) (by omega) (show r * 4294967296 % 4294967296 = 0 by omega)
theorem or_swap {a b : Int} (ha : 0 ≤ a) (ha2 : a < 18446744073709551616) (hb : 0 ≤ b) (hb2 : b < 18446744073709551616) : bits .or .u64 a b = bits .or .u64 b a := by
  obtain ⟨n, rfl⟩ := Int.eq_ofNat_of_zero_le ha
  obtain ⟨m, rfl⟩ := Int.eq_ofNat_of_zero_le hb
  rw [u64_or_nat n m (by omega) (by omega), u64_or_nat m n (by omega) (by omega), Nat.or_comm]
theorem or_limb {r x : Int} (hr : Limb r) (hx : Limb x) : bits .or .u64 (r * 4294967296) x = r * 4294967296 + x := by
  have e := or_limb' hr hx
  obtain ⟨r0, r1⟩ := hr
  obtain ⟨x0, x1⟩ := hx
  rw [or_swap (by omega) (by omega) (by omega) (by omega), e, Int.add_comm]
end Go.Proofs.YtmjidpkddiinaaaDoor

/-
  Package nat: divideShort, shiftDown: walked.
-/
namespace Go.Proofs.YtmjidpkddiinaaaDoor
open Go.RowKit Go.Shelf

set_option maxRecDepth 100000 in
set_option maxHeartbeats 4000000 in
theorem nshort_any (g N m c : Nat) (a : List Int) (by_ : Int) (w : World) (h : Own w g N a) (ha : ∀ t ∈ a, Limb t) (hm : m ≤ N) (hN : N ≤ 30000) (hz : ∀ t : Nat, m ≤ t → digV a t = 0) (hb : Limb by_) (hb0 : 0 < by_) :
    Calls Tryd.prog 53 #[.slice (some ⟨g, 0, none⟩) m c, .int .u32 by_] w fun e w' => ∃ o : List Int, e = .returned (.int .u32 (natV a % by_)) ∧ Own w' g N o ∧ (∀ t ∈ o, Limb t) ∧ natV o = natV a / by_ ∧ (∀ t : Nat, m ≤ t → digV o t = 0) ∧ Only g w w' := by
  have st0 := Lib.hid (short_start (by_ := by_) ha hb0 (natV_take_zero hz))
  have la := h.len
  have stp := Lib.hid (fun j o rest s => @short_step a o by_ rest s j ha hb)
  have fin := Lib.hid (fun o rest (H : ShortAt a by_ 0 o rest) => short_end H)
  have LA := Lib.hid la
  have da := Lib.hid (digV_limb ha)
  have HO := Lib.hid h
  have HZ := Lib.hid hz
  have mb : (m : Int) ≤ 30000 := by omega
  have hbn : ¬ by_ = 0 := by omega
  have bz : (by_ == 0) = false := by simpa using hbn
  have BB := Lib.hid hb
  have b1 := hb.2
  clear h ha la hz hb
  go_enter Tryd.func53, Tryd.ntmps53
  go_wp2
  go_loopw [5, 10] (fun v ii wx => ∃ i : Nat, ∃ rest : Int, ∃ o : List Int, ii = .int .i64 (i : Int) ∧ v = .int .u64 rest ∧ i ≤ m ∧ Own wx g N o ∧ Only g w wx ∧ ShortAt a by_ (m - i) o rest ∧ (∀ t : Nat, m ≤ t → digV o t = 0)) (fun _ ii _ => m - (intOf ii).toNat)
  case atStart => exact ⟨0, 0, a, rfl, rfl, by omega, HO.out, Only.refl _ _, st0.out, HZ.out⟩
  case round =>
    obtain ⟨i, rest, o, rfl, rfl, hi, hown, hB, hI, hz⟩ := hrel
    clear st0
    have r0 := hI.r0
    have r1 := hI.r1
    by_cases hlt : i < m
    · obtain ⟨j, hj⟩ : ∃ j, m - 1 - i = j := ⟨_, rfl⟩
      have ej : (m : Int) - 1 - (i : Int) = (j : Int) := by omega
      have j0 : (0 : Int) ≤ (j : Int) := by omega
      have jl : (j : Int) < (m : Int) := by omega
      have ilt : (i : Int) < (m : Int) := by omega
      have i0 : (0 : Int) ≤ (i : Int) := by omega
      have wj : IntKind.i64.wrap ((m : Int) - 1 - (i : Int)) = (j : Int) := by rw [ej, IntKind.wrap_i64]; omega
      rw [show m - i = j + 1 by omega] at hI
      have cell := row_cell hown j (by omega)
      have fr : World.frozen? _ ⟨g, j, none⟩ = false := hown.frozenAt j
      rw [hI.low j (by omega)] at cell
      have S := stp.out j o rest (rest * 4294967296 + digV a j) hI (by rw [LA.out]; omega) rfl
      have stp1 := Lib.hid S.1
      obtain ⟨x0, x1⟩ := da.out j
      obtain ⟨q0, q1⟩ := S.2.1
      have s0 := S.2.2.1
      have s1 := S.2.2.2
      have OR := or_limb (show Limb rest from ⟨r0, by omega⟩) (da.out j)
      have Hset := Lib.hid (fun v => own_of (row_set hown j v))
      have zz : Hid (∀ v, ∀ t : Nat, m ≤ t → digV (o.set j v) t = 0) := fun v t ht => by rw [digV_set_ne (by omega)]; exact hz t ht
      generalize digV a j = X at *
      obtain ⟨s, hs⟩ : ∃ s, rest * 4294967296 + X = s := ⟨_, rfl⟩
      rw [hs] at stp1 q0 q1 s0 s1 OR
      have wr : IntKind.u64.wrap (rest * 4294967296) = rest * 4294967296 := by rw [IntKind.wrap_u64]; omega
      have q2 : s.tdiv by_ = s / by_ := Int.tdiv_eq_ediv_of_nonneg s0
      have q3 : s.tmod by_ = s % by_ := Int.tmod_eq_emod_of_nonneg s0
      have m0 : 0 ≤ s % by_ := Int.emod_nonneg _ hbn
      have m1 : s % by_ < by_ := Int.emod_lt_of_pos _ hb0
      clear S hI hown stp fin da hz hs
      go_wp2
      go_roundw
      case rel => exact ⟨i + 1, _, _, by go_num, rfl, by omega, Hset.out _, hB.setCell _ _, by rw [show m - (i + 1) = j by omega]; exact stp1.out, zz.out _⟩
      case measure => simp [intOf]; omega
    · obtain rfl : i = m := by omega
      rw [Nat.sub_self] at hI
      have f := Lib.hid (fin.out o rest hI)
      have hge : ¬ (i : Int) < (i : Int) := by omega
      have LL := Lib.hid hI.lim
      have hz := Lib.hid hz
      clear hI stp fin da
      go_wp2
      go_ret
      exact ⟨by rw [← f.out.2]; rfl, o, hown, LL.out, f.out.1, hz.out, hB⟩
set_option maxRecDepth 100000 in
set_option maxHeartbeats 4000000 in
theorem ndown_any (g N : Nat) (a : List Int) (s : Int) (w : World) (h : Own w g N a) (ha : ∀ t ∈ a, Limb t) (hN : N ≤ 30000) (s0 : 0 ≤ s) (s1 : s ≤ 31) :
    Calls Tryd.prog 58 #[.slice (some ⟨g, 0, none⟩) N N, .int .i64 s] w fun e w' => ∃ o : List Int, e = .returned (.tuple #[]) ∧ Own w' g N o ∧ (∀ t ∈ o, Limb t) ∧ natV o = natV a / pw s ∧ Only g w w' := by
  have st0 := Lib.hid (down_start a s ha)
  have la := h.len
  have stp := Lib.hid (fun i o v => @down_step a o s v i ha s0 s1)
  have fin := Lib.hid (fun o (H : DownAt a s a.length o) => down_end ha H)
  have LA := Lib.hid la
  have da := Lib.hid (digV_limb ha)
  have HO := Lib.hid h
  have mb : (N : Int) ≤ 30000 := by omega
  have pp := Lib.hid (pw_pos s)
  rw [la] at fin
  clear h ha la
  go_enter Tryd.func58, Tryd.ntmps58
  go_wp2
  go_loopw [8] (fun ii wx => ∃ i : Nat, ∃ o : List Int, ii = .int .i64 (i : Int) ∧ i ≤ N ∧ Own wx g N o ∧ Only g w wx ∧ DownAt a s i o) (fun ii _ => N - (intOf ii).toNat)
  case atStart => exact ⟨0, a, rfl, by omega, HO.out, Only.refl _ _, st0.out⟩
  case round =>
    obtain ⟨i, o, rfl, hi, hown, hB, hI⟩ := hrel
    clear st0
    by_cases hlt : i < N
    · have ilt : (i : Int) < (N : Int) := by omega
      have i0 : (0 : Int) ≤ (i : Int) := by omega
      have cell := row_cell hown i hlt
      have fr : World.frozen? _ ⟨g, i, none⟩ = false := hown.frozenAt i
      rw [hI.rest i (Nat.le_refl _)] at cell
      have Hset := Lib.hid (fun v => own_of (row_set hown i v))
      obtain ⟨x0, x1⟩ := da.out i
      obtain ⟨v, hv⟩ : ∃ v, (digV a i + 4294967296 * digV a (i + 1)) / pw s = v := ⟨_, rfl⟩
      have stp1 := Lib.hid (stp.out i o v hI (by rw [LA.out]; omega) hv.symm)
      by_cases hl : i + 1 < N
      · have il2 : (i : Int) + 1 < (N : Int) := by omega
        have cell2 := row_cell hown (i + 1) hl
        rw [hI.rest (i + 1) (by omega)] at cell2
        obtain ⟨y0, y1⟩ := da.out (i + 1)
        have OR := or_limb' (da.out (i + 1)) (da.out i)
        generalize digV a i = X at *
        generalize digV a (i + 1) = Y at *
        have wr : IntKind.u64.wrap (Y * 4294967296) = Y * 4294967296 := by rw [IntKind.wrap_u64]; omega
        rw [Int.mul_comm 4294967296 Y] at hv
        obtain ⟨u, hu⟩ : ∃ u, X + Y * 4294967296 = u := ⟨_, rfl⟩
        rw [hu] at OR hv
        have u0 : 0 ≤ u := by omega
        have v0 : 0 ≤ v := by rw [← hv]; exact Int.ediv_nonneg u0 (Int.le_of_lt pp.out)
        have hv2 : u / 2 ^ s.toNat = v := by rw [pw_eq]; exact hv
        clear hI hown stp fin da hu hv
        go_wp2
        go_roundw
        case rel => exact ⟨i + 1, _, by go_num, by omega, Hset.out _, hB.setCell _ _, stp1.out⟩
        case measure => simp [intOf]; omega
      · have il2 : ¬ (i : Int) + 1 < (N : Int) := by omega
        have ze : digV a (i + 1) = 0 := digV_ge (by rw [LA.out]; omega)
        rw [ze] at hv
        generalize digV a i = X at *
        rw [show X + 4294967296 * 0 = X by omega] at hv
        have v0 : 0 ≤ v := by rw [← hv]; exact Int.ediv_nonneg x0 (Int.le_of_lt pp.out)
        have hv2 : X / 2 ^ s.toNat = v := by rw [pw_eq]; exact hv
        clear hI hown stp fin da hv ze
        go_wp2
        go_roundw
        case rel => exact ⟨i + 1, _, by go_num, by omega, Hset.out _, hB.setCell _ _, stp1.out⟩
        case measure => simp [intOf]; omega
    · obtain rfl : i = N := by omega
      have f := Lib.hid (fin.out o hI)
      have hge : ¬ (i : Int) < (i : Int) := by omega
      have LL := Lib.hid hI.lim
      clear hI stp fin da
      go_wp2
      go_end0
      exact ⟨rfl, o, hown, LL.out, f.out, hB⟩
end Go.Proofs.YtmjidpkddiinaaaDoor

/-
  Package nat: guessed: walked.
-/
namespace Go.Proofs.YtmjidpkddiinaaaDoor
open Go.RowKit Go.Shelf

set_option maxRecDepth 100000 in
set_option maxHeartbeats 4000000 in
theorem guess_any (g N k m n d : Nat) (D : Option Addr) (r l : List Int) (w : World) (h : Own w g N r) (hr : ∀ t ∈ r, Limb t) (hd : Sl w w.heap.size D n d l) (hm : k + m = N) (hn : n < m) (n2 : 2 ≤ n) (hN : N ≤ 30000)
    (V W v1 v2 v0 un u1 u2 w0 P : Int) (hK : Knuth V W v1 v2 v0 (un * 4294967296 + u1) u2 w0 P)
    (e1 : digV r (k + n) = un) (e2 : digV r (k + (n - 1)) = u1) (e3 : digV r (k + (n - 2)) = u2) (e4 : digV l (n - 1) = v1) (e5 : digV l (n - 2) = v2) (hle : un ≤ v1) (hW : W < 4294967296 * V) (hv : 2147483648 ≤ v1) :
    Calls Tryd.prog 65 #[.slice (some ⟨g, k, none⟩) m m, .slice D n d] w fun e w' => ∃ G : Int, e = .returned (.int .u32 G) ∧ (∃ q, w.drewN q = w') ∧ Limb G ∧ W / V ≤ G ∧ G ≤ W / V + 1 := by
  rcases hd.rd with z | ⟨b, o, rfl, hb, hc⟩
  · omega
  have c1 := row_cell h (k + n) (by omega)
  have c2 := row_cell h (k + (n - 1)) (by omega)
  have c3 := row_cell h (k + (n - 2)) (by omega)
  have ll := hd.len
  have c4 := hc (n - 1) (by omega)
  have c5 := hc (n - 2) (by omega)
  rw [← digV_lt, e4] at c4
  rw [← digV_lt, e5] at c5
  rw [e1] at c1; rw [e2] at c2; rw [e3] at c3
  obtain ⟨un0, un1⟩ := e1 ▸ digV_limb hr (k + n)
  obtain ⟨u10, u11⟩ := e2 ▸ digV_limb hr (k + (n - 1))
  obtain ⟨u20, u21⟩ := e3 ▸ digV_limb hr (k + (n - 2))
  obtain ⟨v10, v11⟩ := e4 ▸ digV_limb hd.lim (n - 1)
  obtain ⟨v20, v21⟩ := e5 ▸ digV_limb hd.lim (n - 2)
  have OR1 := or_limb (show Limb un from ⟨un0, un1⟩) (show Limb u1 from ⟨u10, u11⟩)
  have OR2 : Hid (∀ L, Limb L → bits .or .u64 (L * 4294967296) u2 = L * 4294967296 + u2) := fun L hL => or_limb hL ⟨u20, u21⟩
  obtain ⟨n1, hn1⟩ : ∃ n1, n - 1 = n1 := ⟨_, rfl⟩
  obtain ⟨m2, hn2⟩ : ∃ n2, n - 2 = n2 := ⟨_, rfl⟩
  rw [hn1] at c2 c4
  rw [hn2] at c3 c5
  have q1 : (n : Int) - 1 = (n1 : Int) := by omega
  have q2 : (n : Int) - 2 = (m2 : Int) := by omega
  have w1 : IntKind.i64.wrap ((n : Int) - 1) = (n1 : Int) := by rw [q1, IntKind.wrap_i64]; omega
  have w2 : IntKind.i64.wrap ((n : Int) - 2) = (m2 : Int) := by rw [q2, IntKind.wrap_i64]; omega
  have nm : (n : Int) < (m : Int) := by omega
  have nm1 : (n1 : Int) < (m : Int) := by omega
  have nm2 : (m2 : Int) < (m : Int) := by omega
  have nn1 : (n1 : Int) < (n : Int) := by omega
  have nn2 : (m2 : Int) < (n : Int) := by omega
  have n10 : (0 : Int) ≤ (n1 : Int) := by omega
  have n20 : (0 : Int) ≤ (m2 : Int) := by omega
  have nb : (n : Int) ≤ 30000 := by omega
  obtain ⟨top, ht⟩ : ∃ top, un * 4294967296 + u1 = top := ⟨_, rfl⟩
  rw [ht] at OR1 hK
  have t0 : 0 ≤ top := by omega
  have t1 : top ≤ v1 * 4294967296 + 4294967295 := by omega
  have tw : top < 18446744073709551616 := by omega
  have wr : IntKind.u64.wrap (un * 4294967296) = un * 4294967296 := by rw [IntKind.wrap_u64]; omega
  have hvn : ¬ v1 = 0 := by omega
  have bz : (v1 == 0) = false := by simpa using hvn
  have d1 : top.tdiv v1 = top / v1 := Int.tdiv_eq_ediv_of_nonneg t0
  have d2 : top.tmod v1 = top % v1 := Int.tmod_eq_emod_of_nonneg t0
  obtain ⟨G0, hG0⟩ : ∃ G, top / v1 = G := ⟨_, rfl⟩
  obtain ⟨L0, hL0⟩ : ∃ L, top % v1 = L := ⟨_, rfl⟩
  rw [hG0] at d1; rw [hL0] at d2
  have gl : G0 * v1 + L0 = top := by rw [← hG0, ← hL0, Int.mul_comm]; exact Int.mul_ediv_add_emod top v1
  have l0 : 0 ≤ L0 := by rw [← hL0]; exact Int.emod_nonneg _ hvn
  have l1 : L0 < v1 := by rw [← hL0]; exact Int.emod_lt_of_pos _ (by omega)
  have g0 : 0 ≤ G0 := by rw [← hG0]; exact Int.ediv_nonneg t0 (by omega)
  have g1 : G0 ≤ 4294967297 := by
    rcases Int.lt_or_le 4294967297 G0 with c | c
    · have := Int.mul_le_mul_of_nonneg_right (show 4294967298 ≤ G0 by omega) (show 0 ≤ v1 by omega)
      omega
    · exact c
  have vp := (knuth_pos hK).1
  have W0 : 0 ≤ W := by
    rw [hK.hW]
    exact Int.add_nonneg (Int.mul_nonneg (by omega) (Int.le_of_lt hK.p)) hK.b0
  obtain ⟨q, hq⟩ : ∃ q, W / V = q := ⟨_, rfl⟩
  have qV : q * V ≤ W := by rw [← hq]; exact Int.ediv_mul_le W (by omega)
  have qq0 : 0 ≤ q := by rw [← hq]; exact Int.ediv_nonneg W0 (by omega)
  have qlt : q < 4294967296 := by rw [← hq]; exact knuth_lt vp hW
  have up : q ≤ G0 := by rw [← hG0]; exact knuth_up hK qV qq0
  have KD : Hid (∀ G L, G * v1 + L = top → L * 4294967296 + u2 < G * v2 → 0 ≤ G → q ≤ G - 1) := fun G L h1 h2 h3 => knuth_down hK h1 h2 h3 qV
  have KN : Hid (∀ G L, G * v1 + L = top → G * v2 ≤ L * 4294967296 + u2 → 0 ≤ G → G ≤ 4294967296 → G - 1 ≤ q) := fun G L h1 h2 h3 h4 => by rw [← hq]; exact knuth_near hK h1 h2 h3 h4
  have KF : Hid (∀ G L, G * v1 + L = top → 4294967296 ≤ L → 0 ≤ G → G < 4294967296 ∧ G ≤ q) := fun G L h1 h2 h3 => by rw [← hq]; exact knuth_far hK h1 h2 t1 h3
  rw [hq]
  have UP := Lib.hid up
  have GL := Lib.hid gl
  have QL := Lib.hid qlt
  clear hK hW hle e1 e2 e3 e4 e5 hd hc h hr hb ll t1 hG0 hL0 hq qV vp W0 up gl qlt hn1 hn2 q1 q2 ht
  go_enter Tryd.func65, Tryd.ntmps65
  go_wp2
  go_quiet (fail)
  go_wp2
  go_quiet (fail)
  go_wp2
  go_quiet (fail)
  go_wp2
  go_loopw [9, 10] (fun gv lv wx => ∃ G L : Int, gv = .int .u64 G ∧ lv = .int .u64 L ∧ 0 ≤ G ∧ G ≤ 4294967297 ∧ 0 ≤ L ∧ L < 4294967296 ∧ Hid (G * v1 + L = top) ∧ Hid (q ≤ G) ∧ ∃ z, w.drewN z = wx) (fun gv _ _ => (intOf gv).toNat)
  case atStart => exact ⟨G0, L0, rfl, rfl, g0, g1, l0, by omega, GL, UP, _, by rw [World.drewN_drewN, World.drewN_drewN]⟩
  case round =>
    obtain ⟨G, L, rfl, rfl, G0', G1, L0', L1, gl, up, z, rfl⟩ := hrel
    clear c1 c2 c4 c5 OR1 d1 d2 l0 l1 g0 g1 UP GL w1
    have lw : IntKind.u64.wrap (L * 4294967296) = L * 4294967296 := by rw [IntKind.wrap_u64]; omega
    have orv := OR2.out L ⟨L0', L1⟩
    clear OR2
    obtain ⟨Gv, hGv⟩ : ∃ Gv, G * v2 = Gv := ⟨_, rfl⟩
    have p0 : 0 ≤ Gv := by rw [← hGv]; exact Int.mul_nonneg G0' v20
    by_cases hbig : 4294967296 ≤ G
    · have t1 : ¬ G / 4294967296 = 0 := by omega
      have t2 : (G / 4294967296 != 0) = true := by simpa using t1
      have gd : Hid (q ≤ G - 1) := by have := QL.out; unfold Hid; omega
      have wg : IntKind.u64.wrap (G - 1) = G - 1 := by rw [IntKind.wrap_u64]; omega
      have wl : IntKind.u64.wrap (L + v1) = L + v1 := by rw [IntKind.wrap_u64]; omega
      have gl2 : Hid ((G - 1) * v1 + (L + v1) = top) := by have := gl.out; unfold Hid; rw [Int.sub_mul, Int.one_mul]; omega
      clear gl up
      by_cases hl : 4294967296 ≤ L + v1
      · have t3 : ¬ (L + v1) / 4294967296 = 0 := by omega
        have t4 : ((L + v1) / 4294967296 != 0) = true := by simpa using t3
        have kf := KF.out (G - 1) (L + v1) gl2.out hl (by omega)
        have f1 := kf.1
        have kf := Lib.hid kf.2
        go_wp2
        go_ret
        exact ⟨G - 1, rfl, ⟨_, rfl⟩, ⟨by omega, f1⟩, gd.out, by have := kf.out; omega⟩
      · have t3 : (L + v1) / 4294967296 = 0 := by omega
        have t4 : ((L + v1) / 4294967296 != 0) = false := by simpa using t3
        go_wp2
        refine ⟨⟨G - 1, L + v1, rfl, rfl, by omega, by omega, by omega, by omega, gl2, gd, _, rfl⟩, ?_⟩
        simp [intOf]; omega
    · have t1 : G / 4294967296 = 0 := by omega
      have t2 : (G / 4294967296 != 0) = false := by simpa using t1
      have p1 : Gv ≤ 4294967295 * 4294967295 := by rw [← hGv]; exact Int.mul_le_mul (by omega) (by omega) v20 (by decide)
      have pw' : IntKind.u64.wrap Gv = Gv := by rw [IntKind.wrap_u64]; omega
      by_cases hc : L * 4294967296 + u2 < Gv
      · have gd : Hid (q ≤ G - 1) := KD.out G L gl.out (by rw [hGv]; exact hc) G0'
        have G2 : 1 ≤ G := by have := gd.out; omega
        have wg : IntKind.u64.wrap (G - 1) = G - 1 := by rw [IntKind.wrap_u64]; omega
        have wl : IntKind.u64.wrap (L + v1) = L + v1 := by rw [IntKind.wrap_u64]; omega
        have gl2 : Hid ((G - 1) * v1 + (L + v1) = top) := by have := gl.out; unfold Hid; rw [Int.sub_mul, Int.one_mul]; omega
        clear gl up
        by_cases hl : 4294967296 ≤ L + v1
        · have t3 : ¬ (L + v1) / 4294967296 = 0 := by omega
          have t4 : ((L + v1) / 4294967296 != 0) = true := by simpa using t3
          have kf := KF.out (G - 1) (L + v1) gl2.out hl (by omega)
          have f1 := kf.1
          have kf := Lib.hid kf.2
          go_wp2
          go_ret
          exact ⟨G - 1, rfl, ⟨_, rfl⟩, ⟨by omega, f1⟩, gd.out, by have := kf.out; omega⟩
        · have t3 : (L + v1) / 4294967296 = 0 := by omega
          have t4 : ((L + v1) / 4294967296 != 0) = false := by simpa using t3
          go_wp2
          refine ⟨⟨G - 1, L + v1, rfl, rfl, by omega, by omega, by omega, by omega, gl2, gd, _, rfl⟩, ?_⟩
          simp [intOf]; omega
      · have kn : Hid (G - 1 ≤ q) := KN.out G L gl.out (by rw [hGv]; omega) G0' (by omega)
        go_wp2
        go_ret
        exact ⟨G, rfl, ⟨_, rfl⟩, ⟨by omega, by omega⟩, up.out, by have := kn.out; omega⟩
end Go.Proofs.YtmjidpkddiinaaaDoor

/-
  Package nat: subtractTimes, addBack: walked.
-/
namespace Go.Proofs.YtmjidpkddiinaaaDoor
open Go.RowKit Go.Shelf

theorem Only.drew {g : Nat} {a w : World} (h : Only g a w) : Only g a w.drew := ⟨h.os, h.tape, h.output, h.size, h.block⟩
set_option maxRecDepth 100000 in
set_option maxHeartbeats 4000000 in
theorem subt_any (g N k m n d : Nat) (D : Option Addr) (r l : List Int) (by_ : Int) (w : World) (h : Own w g N r) (hr : ∀ t ∈ r, Limb t) (hd : Sl w g D n d l) (hm : k + m = N) (hn : n < m) (hN : N ≤ 30000) (hby : Limb by_) :
    Calls Tryd.prog 66 #[.slice (some ⟨g, k, none⟩) m m, .slice D n d, .int .u32 by_] w fun e w' => ∃ (R : Bool) (o : List Int), e = .returned (.bool R) ∧ Own w' g N o ∧ Only g w w' ∧ (∀ t ∈ o, Limb t) ∧ natV o = natV r - pw (32 * (k : Int)) * (by_ * natV l) + (if R = true then 1 else 0) * pw (32 * ((k + n + 1 : Nat) : Int)) ∧ (∀ t : Nat, (t < k ∨ k + n + 1 ≤ t) → digV o t = digV r t) := by
  have st0 := Lib.hid (take_start l by_ r k hr)
  have la := h.len
  have ll := hd.len
  have stp := Lib.hid (fun i o cy bw s z => @take_step l r o by_ cy bw s z k i hd.lim hby hr)
  have fin := Lib.hid (fun o cy bw z (H : TakeAt l by_ r k n o cy bw) => take_end (z := z) hr H (by rw [ll]) (by omega))
  have LA := Lib.hid la
  have LL := Lib.hid ll
  have dr := Lib.hid (digV_limb hr)
  have dl := Lib.hid (digV_limb hd.lim)
  have HO := Lib.hid h
  have HD := Lib.hid hd
  have BY := Lib.hid hby
  obtain ⟨by0, by1⟩ := hby
  have nb : (n : Int) ≤ 30000 := by omega
  have nm : (n : Int) < (m : Int) := by omega
  have S32 := Lib.hid (fun X Y bw hX hY c0 c1 W => sub32_any X Y bw hX hY c0 c1 W)
  clear h hr hd la ll
  go_enter Tryd.func66, Tryd.ntmps66
  go_wp2
  go_loopw [7, 8, 13] (fun v b ii wx => ∃ i : Nat, ∃ cy bw : Int, ∃ o : List Int, ii = .int .i64 (i : Int) ∧ v = .int .u64 cy ∧ b = .int .u32 bw ∧ i ≤ n ∧ Own wx g N o ∧ Only g w wx ∧ TakeAt l by_ r k i o cy bw) (fun _ _ ii _ => n - (intOf ii).toNat)
  case atStart => exact ⟨0, 0, 0, r, rfl, rfl, rfl, by omega, HO.out, Only.refl _ _, st0.out⟩
  case round =>
    obtain ⟨i, cy, bw, o, rfl, rfl, rfl, hi, hown, hB, hI⟩ := hrel
    clear st0
    have c0 := hI.c0
    have c1 := hI.c1
    have b0 := hI.b0
    have b1 := hI.b1
    by_cases hlt : i < n
    · have ilt : (i : Int) < (n : Int) := by omega
      have ilm : (i : Int) < (m : Int) := by omega
      have i0 : (0 : Int) ≤ (i : Int) := by omega
      have HDw := HD.out.below (hB.below (Nat.le_refl _))
      rcases HDw.rd with hz1 | ⟨b1', o1, rfl, hbb, hc1⟩
      · omega
      have cell1 := hc1 i (by rw [LL.out]; exact hlt)
      rw [← digV_lt] at cell1
      have cell2 := row_cell hown (k + i) (by omega)
      rw [hI.out (k + i) (.inr (Nat.le_refl _))] at cell2
      have fr : World.frozen? _ ⟨g, k + i, none⟩ = false := hown.frozenAt (k + i)
      have Hset := Lib.hid (fun v => own_of (row_set hown (k + i) v))
      obtain ⟨x0, x1⟩ := dr.out (k + i)
      obtain ⟨y0, y1⟩ := dl.out i
      obtain ⟨p0, p1⟩ := mul_limb (dl.out i) BY.out
      obtain ⟨p, hp⟩ : ∃ p, digV l i * by_ = p := ⟨_, rfl⟩
      obtain ⟨s, hs⟩ : ∃ s, cy + p = s := ⟨_, rfl⟩
      obtain ⟨lo, hlo⟩ : ∃ lo, s % 4294967296 = lo := ⟨_, rfl⟩
      have lo0 : 0 ≤ lo := by omega
      have lo1 : lo < 4294967296 := by omega
      obtain ⟨z, hz⟩ : ∃ z, digV r (k + i) - lo - bw = z := ⟨_, rfl⟩
      have stp1 := Lib.hid (stp.out i o cy bw s z hI (by rw [LA.out]; omega) (by rw [hp, hs]) (by rw [hlo, hz]))
      have SU := Lib.hid (fun W => S32.out (digV r (k + i)) lo bw (dr.out (k + i)) ⟨lo0, lo1⟩ b0 b1 W)
      rw [hz] at SU
      rw [hp] at p0 p1
      obtain ⟨bo, hbo⟩ : ∃ bo : Int, (if z < 0 then 1 else 0) = bo := ⟨_, rfl⟩
      rw [hbo] at SU stp1
      generalize digV r (k + i) = X at *
      generalize digV l i = Y at *
      have wp' : IntKind.u64.wrap p = p := by rw [IntKind.wrap_u64]; omega
      have ws : IntKind.u64.wrap (cy + p) = s := by rw [hs, IntKind.wrap_u64]; omega
      have s0 : 0 ≤ s := by omega
      clear hc1 HDw HD dr dl hI hown stp fin S32 hs hz hbo
      go_wp2_with (go_at_call 50; refine (SU.out _).mono ?_; rintro e w' ⟨rfl, rfl⟩)
      go_roundw
      case rel => exact ⟨i + 1, _, _, _, by go_num, rfl, rfl, by omega, Hset.out _, hB.setCell _ _, stp1.out⟩
      case measure => simp [intOf]; omega
    · obtain rfl : i = n := by omega
      have hge : ¬ (i : Int) < (i : Int) := by omega
      have cell2 := row_cell hown (k + i) (by omega)
      rw [hI.out (k + i) (.inr (Nat.le_refl _))] at cell2
      have fr : World.frozen? _ ⟨g, k + i, none⟩ = false := hown.frozenAt (k + i)
      have Hset := Lib.hid (fun v => own_of (row_set hown (k + i) v))
      obtain ⟨x0, x1⟩ := dr.out (k + i)
      obtain ⟨z, hz⟩ : ∃ z, digV r (k + i) - cy - bw = z := ⟨_, rfl⟩
      have f := Lib.hid (fin.out o cy bw z hI hz.symm)
      have SU := Lib.hid (fun W => S32.out (digV r (k + i)) cy bw (dr.out (k + i)) ⟨c0, c1⟩ b0 b1 W)
      rw [hz] at SU
      have lim : Hid (∀ v, Limb v → ∀ t ∈ o.set (k + i) v, Limb t) := fun v hv => limbs_set hI.lim _ hv
      have outs : Hid (∀ v, ∀ t : Nat, (t < k ∨ k + i + 1 ≤ t) → digV (o.set (k + i) v) t = digV r t) := fun v t ht => by rw [digV_set_ne (by omega)]; exact hI.out t (by omega)
      generalize digV r (k + i) = X at *
      have fc : IntKind.u32.wrap cy = cy := by rw [IntKind.wrap_u32]; omega
      by_cases zn : z < 0
      · rw [if_pos zn] at SU f
        clear HD dr dl hI hown stp fin S32 hz
        go_wp2_with (go_at_call 50; refine (SU.out _).mono ?_; rintro e w' ⟨rfl, rfl⟩)
        go_ret
        exact ⟨true, _, rfl, Hset.out _, hB.setCell _ _, lim.out _ ⟨by omega, by omega⟩, by simpa using f.out, outs.out _⟩
      · rw [if_neg zn] at SU f
        clear HD dr dl hI hown stp fin S32 hz
        go_wp2_with (go_at_call 50; refine (SU.out _).mono ?_; rintro e w' ⟨rfl, rfl⟩)
        go_ret
        exact ⟨false, _, rfl, Hset.out _, hB.setCell _ _, lim.out _ ⟨by omega, by omega⟩, by simpa using f.out, outs.out _⟩
set_option maxRecDepth 100000 in
set_option maxHeartbeats 4000000 in
theorem back_any (g N k m n d : Nat) (D : Option Addr) (r l : List Int) (w : World) (h : Own w g N r) (hr : ∀ t ∈ r, Limb t) (hd : Sl w g D n d l) (hm : k + m = N) (hn : n < m) (hN : N ≤ 30000) :
    Calls Tryd.prog 67 #[.slice (some ⟨g, k, none⟩) m m, .slice D n d] w fun e w' => ∃ (q : Int) (o : List Int), e = .returned (.tuple #[]) ∧ Own w' g N o ∧ Only g w w' ∧ (∀ t ∈ o, Limb t) ∧ natV o = natV r + pw (32 * (k : Int)) * natV l - q * pw (32 * ((k + n + 1 : Nat) : Int)) ∧ 0 ≤ q ∧ q ≤ 1 ∧ (∀ t : Nat, (t < k ∨ k + n + 1 ≤ t) → digV o t = digV r t) := by
  have st0 := Lib.hid (back_start l r k hr)
  have la := h.len
  have ll := hd.len
  have stp := Lib.hid (fun i o cy s => @back_step l r o cy s k i hd.lim hr)
  have fin := Lib.hid (fun o cy z (H : BackAt l r k n o cy) => back_end (z := z) hr H (by rw [ll]) (by omega))
  have LA := Lib.hid la
  have LL := Lib.hid ll
  have dr := Lib.hid (digV_limb hr)
  have dl := Lib.hid (digV_limb hd.lim)
  have HO := Lib.hid h
  have HD := Lib.hid hd
  have nb : (n : Int) ≤ 30000 := by omega
  have nm : (n : Int) < (m : Int) := by omega
  have S32 := Lib.hid (fun X Y bw hX hY c0 c1 W => add32_any X Y bw hX hY c0 c1 W)
  clear h hr hd la ll
  go_enter Tryd.func67, Tryd.ntmps67
  go_wp2
  go_loopw [4, 8] (fun v ii wx => ∃ i : Nat, ∃ cy : Int, ∃ o : List Int, ii = .int .i64 (i : Int) ∧ v = .int .u32 cy ∧ i ≤ n ∧ Own wx g N o ∧ Only g w wx ∧ BackAt l r k i o cy) (fun _ ii _ => n - (intOf ii).toNat)
  case atStart => exact ⟨0, 0, r, rfl, rfl, by omega, HO.out, Only.refl _ _, st0.out⟩
  case round =>
    obtain ⟨i, cy, o, rfl, rfl, hi, hown, hB, hI⟩ := hrel
    clear st0
    have c0 := hI.c0
    have c1 := hI.c1
    by_cases hlt : i < n
    · have ilt : (i : Int) < (n : Int) := by omega
      have ilm : (i : Int) < (m : Int) := by omega
      have i0 : (0 : Int) ≤ (i : Int) := by omega
      have HDw := HD.out.below (hB.below (Nat.le_refl _))
      rcases HDw.rd with hz1 | ⟨b1', o1, rfl, hbb, hc1⟩
      · omega
      have cell1 := hc1 i (by rw [LL.out]; exact hlt)
      rw [← digV_lt] at cell1
      have cell2 := row_cell hown (k + i) (by omega)
      rw [hI.out (k + i) (.inr (Nat.le_refl _))] at cell2
      have fr : World.frozen? _ ⟨g, k + i, none⟩ = false := hown.frozenAt (k + i)
      have Hset := Lib.hid (fun v => own_of (row_set hown (k + i) v))
      obtain ⟨s, hs⟩ : ∃ s, digV r (k + i) + digV l i + cy = s := ⟨_, rfl⟩
      have stp1 := Lib.hid (stp.out i o cy s hI (by rw [LA.out]; omega) hs.symm)
      have SU := Lib.hid (fun W => S32.out (digV r (k + i)) (digV l i) cy (dr.out (k + i)) (dl.out i) c0 c1 W)
      rw [hs] at SU
      generalize digV r (k + i) = X at *
      generalize digV l i = Y at *
      clear hc1 HDw HD dr dl hI hown stp fin S32 hs
      go_wp2_with fail
      go_region_with ((go_at_call 74; refine (SU.out _).mono ?_; rintro e w' ⟨rfl, rfl⟩))
      all_goals
        go_wp2
        go_roundw
        case rel => exact ⟨i + 1, _, _, by go_num, rfl, by omega, by first | exact Hset.out _ | exact own_drew Hset _ _, by first | exact hB.setCell _ _ | exact (hB.drewN _).setCell _ _ | exact (hB.drew).setCell _ _, stp1.out⟩
        case measure => simp [intOf]; omega
    · obtain rfl : i = n := by omega
      have hge : ¬ (i : Int) < (i : Int) := by omega
      have cell2 := row_cell hown (k + i) (by omega)
      rw [hI.out (k + i) (.inr (Nat.le_refl _))] at cell2
      have fr : World.frozen? _ ⟨g, k + i, none⟩ = false := hown.frozenAt (k + i)
      have Hset := Lib.hid (fun v => own_of (row_set hown (k + i) v))
      obtain ⟨x0, x1⟩ := dr.out (k + i)
      obtain ⟨z, hz⟩ : ∃ z, digV r (k + i) + cy = z := ⟨_, rfl⟩
      have f := Lib.hid (fin.out o cy z hI hz.symm)
      have lim : Hid (∀ v, Limb v → ∀ t ∈ o.set (k + i) v, Limb t) := fun v hv => limbs_set hI.lim _ hv
      have outs : Hid (∀ v, ∀ t : Nat, (t < k ∨ k + i + 1 ≤ t) → digV (o.set (k + i) v) t = digV r t) := fun v t ht => by rw [digV_set_ne (by omega)]; exact hI.out t (by omega)
      generalize digV r (k + i) = X at *
      have z0 : 0 ≤ z ∧ z ≤ 4294967296 := by omega
      have wz : IntKind.u32.wrap z = z % 4294967296 := by rw [IntKind.wrap_u32]
      clear HD dr dl hI hown stp fin S32
      go_wp2
      go_end0
      exact ⟨rfl, z / 4294967296, _, Hset.out _, hB.setCell _ _, lim.out _ ⟨by omega, by omega⟩, by have := f.out; push_cast at this; exact this, by omega, by omega, outs.out _⟩
end Go.Proofs.YtmjidpkddiinaaaDoor

/-
  Long division: a round, and the whole: plain facts.
-/
namespace Go.Proofs.YtmjidpkddiinaaaDoor
open Go.RowKit Go.Shelf

theorem natV_digs_lt {l : List Int} {m : Nat} (hl : ∀ x ∈ l, Limb x) (h : ∀ t : Nat, m ≤ t → digV l t = 0) : natV l < pw (32 * (m : Int)) := by
  rw [← natV_take_zero h]; exact natV_take_lt hl m
theorem digs_zero {l : List Int} {m : Nat} (hl : ∀ x ∈ l, Limb x) (h : natV l < pw (32 * (m : Int))) : ∀ t : Nat, m ≤ t → digV l t = 0 := fun t ht => by
  rw [← natV_dig hl t, Int.ediv_eq_zero_of_lt (natV_nonneg hl) (Int.lt_of_lt_of_le h (pw_mono (by omega) (by omega)))]; rfl
/-- Three limbs of a window. -/
theorem window3 {r : List Int} {k n : Nat} (hr : ∀ x ∈ r, Limb x) (n2 : 2 ≤ n) (hlt : natV r < pw (32 * ((k + n + 1 : Nat) : Int))) :
    natV r / pw (32 * (k : Int)) / pw (32 * ((n - 2 : Nat) : Int)) = (digV r (k + n) * 4294967296 + digV r (k + (n - 1))) * 4294967296 + digV r (k + (n - 2)) := by
  obtain ⟨j, hj⟩ : ∃ j, k + (n - 2) = j := ⟨_, rfl⟩
  have e1 : natV r / pw (32 * (k : Int)) / pw (32 * ((n - 2 : Nat) : Int)) = natV r / pw (32 * (j : Int)) := by
    rw [Int.ediv_ediv_of_nonneg (Int.le_of_lt (pw_pos _)), ← pwki, hj]
  rw [e1, show k + n = j + 1 + 1 by omega, show k + (n - 1) = j + 1 by omega, hj]
  have p := pw_pos (32 * (j : Int))
  have d0 := natV_dig hr j
  have d1 := natV_dig hr (j + 1)
  have d2 := natV_dig hr (j + 1 + 1)
  rw [pw32s, Int.mul_comm, ← Int.ediv_ediv_of_nonneg (by omega)] at d1
  rw [pw32s, pw32s, Int.mul_comm, Int.mul_comm 4294967296, Int.mul_assoc, ← Int.ediv_ediv_of_nonneg (by omega)] at d2
  have ub : natV r / pw (32 * (j : Int)) < 79228162514264337593543950336 := by
    apply Int.ediv_lt_of_lt_mul p
    rw [show k + n + 1 = j + 1 + 1 + 1 by omega, pw32s, pw32s, pw32s] at hlt
    omega
  have u0 : 0 ≤ natV r / pw (32 * (j : Int)) := Int.ediv_nonneg (natV_nonneg hr) (by omega)
  generalize natV r / pw (32 * (j : Int)) = U at *
  omega
/-- Two limbs of a divisor. -/
theorem window2 {l : List Int} {n : Nat} (hl : ∀ x ∈ l, Limb x) (n2 : 2 ≤ n) (hlt : natV l < pw (32 * (n : Int))) :
    natV l / pw (32 * ((n - 2 : Nat) : Int)) = digV l (n - 1) * 4294967296 + digV l (n - 2) := by
  obtain ⟨j, hj⟩ : ∃ j, n - 2 = j := ⟨_, rfl⟩
  rw [hj, show n - 1 = j + 1 by omega]
  have p := pw_pos (32 * (j : Int))
  have d0 := natV_dig hl j
  have d1 := natV_dig hl (j + 1)
  rw [pw32s, Int.mul_comm, ← Int.ediv_ediv_of_nonneg (by omega)] at d1
  have ub : natV l / pw (32 * (j : Int)) < 18446744073709551616 := by
    apply Int.ediv_lt_of_lt_mul p
    rw [show n = j + 1 + 1 by omega, pw32s, pw32s] at hlt
    omega
  have u0 : 0 ≤ natV l / pw (32 * (j : Int)) := Int.ediv_nonneg (natV_nonneg hl) (by omega)
  generalize natV l / pw (32 * (j : Int)) = U at *
  omega
/-- Division, the limbs from the j-th on done. -/
structure LongAt (X D : Int) (j : Nat) (Q r : List Int) : Prop where
  ql : ∀ t ∈ Q, Limb t
  rl : ∀ t ∈ r, Limb t
  v : natV Q * D + natV r = X
  b : natV r < pw (32 * (j : Int)) * D
  z : ∀ t : Nat, t < j → digV Q t = 0
theorem long_knuth {X : Int} {l Q r : List Int} {k n : Nat} (hl : ∀ x ∈ l, Limb x) (hln : l.length = n) (n2 : 2 ≤ n) (h1 : 1 ≤ digV l (n - 1)) (h : LongAt X (natV l) (k + 1) Q r) :
    Knuth (natV l) (natV r / pw (32 * (k : Int))) (digV l (n - 1)) (digV l (n - 2)) (natV l % pw (32 * ((n - 2 : Nat) : Int))) (digV r (k + n) * 4294967296 + digV r (k + (n - 1))) (digV r (k + (n - 2))) (natV r / pw (32 * (k : Int)) % pw (32 * ((n - 2 : Nat) : Int))) (pw (32 * ((n - 2 : Nat) : Int))) ∧
    digV r (k + n) ≤ digV l (n - 1) ∧ natV r / pw (32 * (k : Int)) < 4294967296 * natV l ∧ (∀ t : Nat, k + n + 1 ≤ t → digV r t = 0) ∧ 0 < natV l := by
  have hD : natV l < pw (32 * (n : Int)) := by have := natV_lt hl; rw [hln] at this; exact this
  have hr := h.rl
  have rb : natV r < pw (32 * ((k + n + 1 : Nat) : Int)) := by
    refine Int.lt_of_lt_of_le h.b ?_
    rw [show k + n + 1 = (k + 1) + n by omega, pwki (k + 1) n]
    exact Int.mul_le_mul_of_nonneg_left (Int.le_of_lt hD) (Int.le_of_lt (pw_pos _))
  have w3 := window3 hr n2 rb
  have w2 := window2 hl n2 hD
  have P := pw_pos (32 * ((n - 2 : Nat) : Int))
  have pk := pw_pos (32 * (k : Int))
  have WB : natV r / pw (32 * (k : Int)) < 4294967296 * natV l := by
    apply Int.ediv_lt_of_lt_mul pk
    have := h.b
    rw [pw32s] at this
    rw [Int.mul_comm, ← Int.mul_assoc, Int.mul_comm (pw _)]; exact this
  have W0 : 0 ≤ natV r / pw (32 * (k : Int)) := Int.ediv_nonneg (natV_nonneg hr) (by omega)
  have D0 := natV_nonneg hl
  obtain ⟨v20, v21⟩ := digV_limb hl (n - 2)
  obtain ⟨u20, u21⟩ := digV_limb hr (k + (n - 2))
  obtain ⟨u10, u11⟩ := digV_limb hr (k + (n - 1))
  obtain ⟨un0, un1⟩ := digV_limb hr (k + n)
  generalize natV r / pw (32 * (k : Int)) = W at *
  generalize natV l = D at *
  generalize pw (32 * ((n - 2 : Nat) : Int)) = p at *
  have eD := Int.mul_ediv_add_emod D p
  have eW := Int.mul_ediv_add_emod W p
  have m1 := Int.emod_nonneg D (show p ≠ 0 by omega)
  have m2 := Int.emod_lt_of_pos D P
  have m3 := Int.emod_nonneg W (show p ≠ 0 by omega)
  have m4 := Int.emod_lt_of_pos W P
  rw [w2] at eD
  rw [w3] at eW
  have K : Knuth D W (digV l (n - 1)) (digV l (n - 2)) (D % p) (digV r (k + n) * 4294967296 + digV r (k + (n - 1))) (digV r (k + (n - 2))) (W % p) p :=
    ⟨P, by rw [Int.mul_comm _ p]; exact eD.symm, by rw [Int.mul_comm _ p]; exact eW.symm, m1, m2, m3, m4, v20, v21, u20, u21, h1, by omega⟩
  refine ⟨K, ?_, WB, digs_zero hr rb, (knuth_pos K).1⟩
  rcases Int.lt_or_le (digV l (n - 1)) (digV r (k + n)) with c | c
  · exfalso
    have a1 : p * ((digV l (n - 1) + 1) * 4294967296 * 4294967296) ≤ W := by
      rw [← eW]
      have : p * ((digV l (n - 1) + 1) * 4294967296 * 4294967296) ≤ p * ((digV r (k + n) * 4294967296 + digV r (k + (n - 1))) * 4294967296 + digV r (k + (n - 2))) := Int.mul_le_mul_of_nonneg_left (by omega) (by omega)
      omega
    have a2 : 4294967296 * D < p * ((digV l (n - 1) + 1) * 4294967296 * 4294967296) := by
      have : p * (digV l (n - 1) * 4294967296 + digV l (n - 2) + 1) ≤ p * ((digV l (n - 1) + 1) * 4294967296) := Int.mul_le_mul_of_nonneg_left (by omega) (by omega)
      rw [Int.mul_add p (digV l (n - 1) * 4294967296 + digV l (n - 2)) 1] at this
      rw [← Int.mul_assoc p, Int.mul_comm _ 4294967296]
      omega
    omega
  · exact c
/-- The round's end. -/
theorem long_step {X D : Int} {Q r o : List Int} {k : Nat} {q : Int} (hD : 0 < D) (h : LongAt X D (k + 1) Q r) (ol : ∀ t ∈ o, Limb t) (hk : k < Q.length) (hq : Limb q) (hqW : q = natV r / pw (32 * (k : Int)) / D) (ho : natV o = natV r - pw (32 * (k : Int)) * (q * D)) :
    LongAt X D k (Q.set k q) o := by
  refine ⟨limbs_set h.ql _ hq, ol, ?_, ?_, fun t ht => by rw [digV_set_ne (by omega)]; exact h.z t (by omega)⟩
  · rw [natV_set _ hk, ← digV_lt hk, h.z k (by omega), ho, ← h.v, Int.add_mul, Int.sub_zero, Int.mul_assoc]
    omega
  · have pk := pw_pos (32 * (k : Int))
    rw [ho]
    have e1 := Int.mul_ediv_add_emod (natV r) (pw (32 * (k : Int)))
    have e2 := Int.mul_ediv_add_emod (natV r / pw (32 * (k : Int))) D
    have b1 := Int.emod_lt_of_pos (natV r) pk
    have b2 := Int.emod_lt_of_pos (natV r / pw (32 * (k : Int))) hD
    rw [← hqW] at e2
    generalize natV r / pw (32 * (k : Int)) = W at *
    generalize pw (32 * (k : Int)) = p at *
    have e3 : p * W = p * (q * D) + p * (W % D) := by rw [← Int.mul_add, Int.mul_comm q D, e2]
    have e4 : p * (W % D + 1) ≤ p * D := Int.mul_le_mul_of_nonneg_left (by omega) (by omega)
    rw [Int.mul_add, Int.mul_one] at e4
    omega
/-- The guess was right. -/
theorem guess_right {r o : List Int} {k : Nat} {G D : Int} (hD : 0 < D) (ol : ∀ t ∈ o, Limb t) (ho : natV o = natV r - pw (32 * (k : Int)) * (G * D)) (hG : natV r / pw (32 * (k : Int)) / D ≤ G) : G = natV r / pw (32 * (k : Int)) / D := by
  have pk := pw_pos (32 * (k : Int))
  have o0 := natV_nonneg ol
  have : G ≤ natV r / pw (32 * (k : Int)) / D := by
    rw [Int.le_ediv_iff_mul_le hD, Int.le_ediv_iff_mul_le pk, Int.mul_comm (G * D)]
    omega
  omega
theorem quo_le {r : List Int} {k : Nat} {D : Int} (hD : 0 < D) : pw (32 * (k : Int)) * (natV r / pw (32 * (k : Int)) / D * D) ≤ natV r := by
  have pk := pw_pos (32 * (k : Int))
  have e1 := Int.ediv_mul_le (natV r / pw (32 * (k : Int))) (show D ≠ 0 by omega)
  have e2 := Int.mul_ediv_add_emod (natV r) (pw (32 * (k : Int)))
  have e4 := Int.emod_nonneg (natV r) (show pw (32 * (k : Int)) ≠ 0 by omega)
  have e3 := Int.mul_le_mul_of_nonneg_left e1 (Int.le_of_lt pk)
  omega
/-- The guess was one too great. -/
theorem guess_over {r o : List Int} {k n : Nat} {G D : Int} (hD : 0 < D) (ol : ∀ t ∈ o, Limb t) (oz : ∀ t : Nat, k + n + 1 ≤ t → digV o t = 0) (ho : natV o = natV r - pw (32 * (k : Int)) * (G * D) + pw (32 * ((k + n + 1 : Nat) : Int))) (hG : natV r / pw (32 * (k : Int)) / D ≤ G) (hG2 : G ≤ natV r / pw (32 * (k : Int)) / D + 1) : G = natV r / pw (32 * (k : Int)) / D + 1 := by
  have lt := natV_digs_lt ol oz
  have q := quo_le (r := r) (k := k) hD
  generalize natV r / pw (32 * (k : Int)) / D = z at *
  rcases Int.lt_or_le z G with c | c
  · omega
  · obtain rfl : G = z := by omega
    omega
theorem back_right {r o o2 : List Int} {k n : Nat} {q z D : Int} (hD : 0 < D) (ol : ∀ t ∈ o2, Limb t) (oz : ∀ t : Nat, k + n + 1 ≤ t → digV o2 t = 0) (hq : q = natV r / pw (32 * (k : Int)) / D) (ho : natV o = natV r - pw (32 * (k : Int)) * ((q + 1) * D) + pw (32 * ((k + n + 1 : Nat) : Int))) (z0 : 0 ≤ z) (z1 : z ≤ 1) (h2 : natV o2 = natV o + pw (32 * (k : Int)) * D - z * pw (32 * ((k + n + 1 : Nat) : Int))) : natV o2 = natV r - pw (32 * (k : Int)) * (q * D) := by
  have lt := natV_digs_lt ol oz
  have q1 := quo_le (r := r) (k := k) hD
  rw [← hq] at q1
  rw [ho, Int.add_mul, Int.one_mul, Int.mul_add] at h2
  rcases (show z = 0 ∨ z = 1 by omega) with rfl | rfl
  · omega
  · omega
theorem long_end {X D : Int} {Q r : List Int} (h : LongAt X D 0 Q r) : natV Q = X / D ∧ natV r = X % D := by
  have b := h.b
  have r0 := natV_nonneg h.rl
  rw [show pw (32 * ((0 : Nat) : Int)) = 1 from rfl, Int.one_mul] at b
  have v := h.v
  rw [← v, Int.add_comm, Int.add_mul_ediv_right _ _ (by omega), Int.ediv_eq_zero_of_lt r0 b, Int.add_mul_emod_self_right, Int.emod_eq_of_lt r0 b]
  exact ⟨by omega, rfl⟩
/-- A divisor that is shifted up until its highest bit is set. -/
theorem normal_shift {y : List Int} {n : Nat} {s : Int} (hy : ∀ x ∈ y, Limb x) (hn : y.length = n) (n1 : 1 ≤ n) (nz : Norm y) (hs : s = 32 - (Lib.bitLen (digV y (n - 1)).toNat : Int)) :
    0 ≤ s ∧ s ≤ 31 ∧ natV y * pw s < pw (32 * (n : Int)) ∧ pw (32 * ((n - 1 : Nat) : Int)) * 2147483648 ≤ natV y * pw s := by
  obtain ⟨j, hj⟩ : ∃ j, n - 1 = j := ⟨_, rfl⟩
  obtain rfl : n = j + 1 := by omega
  have tz : digV y j ≠ 0 := by rw [digV_lt (by omega)]; exact nz j (by omega) (by omega)
  obtain ⟨t0, t1⟩ := digV_limb hy j
  rw [hj] at hs ⊢
  have vt := natV_take_dig y j
  rw [natV_take_all (by omega)] at vt
  have lo := natV_take_lt hy j
  have lo0 := natV_nonneg (limbs_take hy j)
  obtain ⟨T, hT⟩ := Int.eq_ofNat_of_zero_le t0
  rw [hT] at hs tz t1 vt
  simp only [Int.toNat_natCast] at hs
  obtain ⟨s1, s2, s3⟩ := bitLen_bd T (by omega)
  generalize Lib.bitLen T = L at *
  have a1 : (T : Int) < pw (L : Int) := by show (T : Int) < ((2 ^ ((L : Int)).toNat : Nat) : Int); rw [Int.toNat_natCast]; exact_mod_cast s1
  have a2 : pw (L : Int) ≤ 2 * (T : Int) := by show ((2 ^ ((L : Int)).toNat : Nat) : Int) ≤ _; rw [Int.toNat_natCast]; exact_mod_cast s2 (by omega)
  have l32 : L ≤ 32 := by
    have : pw (L : Int) < pw 33 := Int.lt_of_le_of_lt a2 (by rw [show pw 33 = 8589934592 from rfl]; omega)
    have := pw_inj_le (by decide) this
    omega
  have l1 : 1 ≤ L := by
    rcases Nat.eq_zero_or_pos L with c | c
    · subst c; rw [show pw ((0 : Nat) : Int) = 1 from rfl] at a1; omega
    · exact c
  have e := pw_add (L : Int) s (by omega) (by omega)
  rw [show (L : Int) + s = 32 by omega, show pw 32 = 4294967296 from rfl] at e
  have ps := pw_pos s
  have pj := pw_pos (32 * (j : Int))
  refine ⟨by omega, by omega, ?_, ?_⟩
  · rw [pw32s, e]
    have b1 : natV y < pw (32 * (j : Int)) * pw (L : Int) := by
      have : pw (32 * (j : Int)) * ((T : Int) + 1) ≤ pw (32 * (j : Int)) * pw (L : Int) := Int.mul_le_mul_of_nonneg_left (by omega) (by omega)
      rw [Int.mul_add, Int.mul_one] at this
      omega
    have := Int.mul_lt_mul_of_pos_right b1 ps
    rw [Int.mul_assoc, Int.mul_comm (pw (32 * (j : Int)))] at this
    exact this
  · have b2 : pw (32 * (j : Int)) * (T : Int) ≤ natV y := by omega
    have b3 := Int.mul_le_mul_of_nonneg_right b2 (Int.le_of_lt ps)
    have b4 := Int.mul_le_mul_of_nonneg_right a2 (Int.le_of_lt ps)
    have b5 : 2147483648 ≤ (T : Int) * pw s := by rw [← e, Int.mul_assoc] at b4; omega
    have b6 := Int.mul_le_mul_of_nonneg_left b5 (Int.le_of_lt pj)
    rw [Int.mul_assoc] at b3
    omega
end Go.Proofs.YtmjidpkddiinaaaDoor

/-
  Package nat: divideLong: walked.
-/
namespace Go.Proofs.YtmjidpkddiinaaaDoor
open Go.RowKit Go.Shelf

/-- Two rows of the call's own: the quotient and what is left. -/
def LongPost (q r : Int) (w : World) (e : Ending) (w' : World) : Prop :=
  ∃ (g3 g2 M N : Nat) (Q R : List Int), e = .returned (.tuple #[.slice (some ⟨g3, 0, none⟩) M M, .slice (some ⟨g2, 0, none⟩) N N]) ∧ w.heap.size ≤ g2 ∧ w.heap.size ≤ g3 ∧ Own w' g3 M Q ∧ Own w' g2 N R ∧ (∀ t ∈ Q, Limb t) ∧ (∀ t ∈ R, Limb t) ∧ natV Q = q ∧ natV R = r ∧ M ≤ 3000 ∧ N ≤ 3001 ∧ Below w.heap.size w w'
theorem long_start {x y r l : List Int} {a b M : Nat} {s : Int} (hx : ∀ t ∈ x, Limb t) (lx : x.length = a) (hy : ∀ t ∈ y, Limb t) (ly : y.length = b) (ny : Norm y) (b2 : 2 ≤ b) (hM : a - b + 1 = M) (hb : b ≤ a) (rl : ∀ t ∈ r, Limb t) (rv : natV r = natV x * pw s) (lv : natV l = natV y * pw s) :
    LongAt (natV x * pw s) (natV l) M (List.replicate M 0) r := by
  refine ⟨limbs_rep _, rl, by rw [natV_rep, rv]; omega, ?_, fun t ht => by rw [digV_lt (by simpa using ht)]; simp⟩
  have h1 := natV_lt hx
  rw [lx] at h1
  have h2 := norm_ge hy ny (k := b - 1) (by omega)
  have e : pw (32 * (a : Int)) = pw (32 * (M : Int)) * pw (32 * ((b - 1 : Nat) : Int)) := by rw [← pwki]; congr 2; omega
  have h3 := Int.mul_le_mul_of_nonneg_left h2 (Int.le_of_lt (pw_pos (32 * (M : Int))))
  rw [rv, lv, ← Int.mul_assoc]
  exact Int.mul_lt_mul_of_pos_right (by omega) (pw_pos s)
theorem norm_top {l : List Int} {b b1 : Nat} (hl : ∀ t ∈ l, Limb t) (hb : b1 + 1 = b) (h1 : natV l < pw (32 * (b : Int))) (h2 : pw (32 * (b1 : Int)) * 2147483648 ≤ natV l) : 2147483648 ≤ digV l b1 := by
  subst hb
  rw [pw32s] at h1
  have p := pw_pos (32 * (b1 : Int))
  rw [← natV_dig hl b1]
  have a1 : natV l / pw (32 * (b1 : Int)) < 4294967296 := Int.ediv_lt_of_lt_mul p (by omega)
  have a2 : 2147483648 ≤ natV l / pw (32 * (b1 : Int)) := (Int.le_ediv_iff_mul_le p).2 (by omega)
  omega
set_option maxRecDepth 100000 in
set_option maxHeartbeats 4000000 in
theorem nlong_any (A B : Option Addr) (a b c d : Nat) (x y : List Int) (w : World) (hx : Sl w w.heap.size A a c x) (hy : Sl w w.heap.size B b d y) (ha : a ≤ 3000) (_nx : Norm x) (ny : Norm y) (b2 : 2 ≤ b) (hle : natV y ≤ natV x) :
    Calls Tryd.prog 54 #[.slice A a c, .slice B b d] w (LongPost (natV x / natV y) (natV x % natV y) w) := by
  have ba : b ≤ a := by
    rcases Nat.lt_or_ge a b with z | z
    · have := norm_lt_of_len hx.lim hy.lim ny (by rw [hx.len, hy.len]; exact z)
      omega
    · exact z
  have lx := hx.len; have ly := hy.len
  obtain ⟨s, hs⟩ : ∃ s : Int, 32 - (Lib.bitLen (digV y (b - 1)).toNat : Int) = s := ⟨_, rfl⟩
  obtain ⟨s0, s1, sl, sh⟩ := normal_shift hy.lim ly (by omega) ny hs.symm
  have topl := digV_limb hy.lim (b - 1)
  have LZ : Hid (∀ W, Calls Tryd.prog 64 #[.int .u32 (digV y (b - 1))] W fun e w' => e = .returned (.int .i64 s) ∧ W = w') := fun W => (Tryd.bits_LeadingZeros32 (digV y (b - 1)) W topl.1 (by have := topl.2; omega)).mono (by rintro e w' ⟨rfl, rfl⟩; exact ⟨by rw [hs], rfl⟩)
  have HX := Lib.hid hx; have HY := Lib.hid hy
  rcases hy.rd with z | ⟨bb, oo, rfl, hbb, hc⟩
  · omega
  have cell := hc (b - 1) (by omega)
  rw [← digV_lt] at cell
  have UPY := Lib.hid (nup_row _ b d y s w hy (by omega) s0 s1)
  have ab : (a : Int) ≤ 3000 := by omega
  have bb' : (b : Int) ≤ 3000 := by omega
  obtain ⟨b1, hb1⟩ : ∃ b1, b - 1 = b1 := ⟨_, rfl⟩
  rw [hb1] at cell LZ sh
  have eb : (b : Int) - 1 = (b1 : Int) := by omega
  have wb : IntKind.i64.wrap ((b : Int) - 1) = (b1 : Int) := by rw [eb, IntKind.wrap_i64]; omega
  have b10 : (0 : Int) ≤ (b1 : Int) := by omega
  have b1b : (b1 : Int) < (b : Int) := by omega
  have SL := Lib.hid sl; have SH := Lib.hid sh
  obtain ⟨t0, t1⟩ := topl
  rw [hb1] at t0 t1
  generalize hT : digV y b1 = T at *
  clear hc hs sl sh hT
  go_enter Tryd.func54, Tryd.ntmps54
  go_wp2_with fail
  refine (LZ.out _).mono ?_
  rintro e w1 ⟨rfl, rfl⟩
  go_wp2_with fail
  refine UPY.out.mono ?_
  rintro e w1 ⟨o, rfl, hown1, ol, ov, hb1'⟩
  have UPX := Lib.hid (nup_row A a c x s w1 (HX.out.on hb1') (by omega) s0 s1)
  have S1 := (row_sl hown1 ol).take (show b ≤ b + 1 by omega)
  have lv : natV (o.take b) = natV y * pw s := by rw [natV_take_zero (digs_zero ol (by rw [ov]; exact SL.out)), ov]
  have LS := Lib.hid (fun r rl rv M hM => @long_start x y r (o.take b) a b M s HX.out.lim lx HY.out.lim ly ny b2 hM ba rl rv lv)
  have NT : Hid (2147483648 ≤ digV (o.take b) (b - 1)) := by
    unfold Hid; rw [hb1]
    exact norm_top (b := b) (b1 := b1) S1.lim (by omega) (by rw [lv]; exact SL.out) (by rw [lv]; exact SH.out)
  generalize o.take b = l at *
  have S1 := Lib.hid S1
  have LV := Lib.hid lv
  have B1 := Lib.hid hb1'
  clear hown1 ol ov hb1' UPY LZ cell lv hx hy HY SL SH _nx ny
  go_wp2_with fail
  refine UPX.out.mono ?_
  rintro e w2 ⟨r0, rfl, hown2, rl, rv, hb2⟩
  obtain ⟨M, hM⟩ : ∃ M, a - b + 1 = M := ⟨_, rfl⟩
  have st0 := Lib.hid (LS.out r0 rl rv M hM)
  have EM := Lib.hid (show (a : Int) - (b : Int) + 1 = (M : Int) by omega)
  have Mb : M ≤ 3000 := by omega
  have S2 := Lib.hid (S1.out.below hb2)
  have O2 := Lib.hid (own_of hown2)
  have B2 := Lib.hid (B1.out.trans (hb2.mono B1.out.size))
  have sz1 := Lib.hid B1.out.size
  have hgt : w1.heap.size < w2.heap.size := row_lt hown2
  clear LS rl rv hown2 hb2 UPX S1 B1
  obtain ⟨g1, hg1⟩ : ∃ g, w.heap.size = g := ⟨_, rfl⟩
  obtain ⟨g2, hg2⟩ : ∃ g, w1.heap.size = g := ⟨_, rfl⟩
  rw [hg2] at S2 O2 hgt sz1
  rw [hg1] at S2 B2 sz1
  rw [hg2, hg1]
  have HG1 := Lib.hid hg1
  clear hg2 hg1
  go_wp2_with (at_make; go_loud (refine wpList_mkN rfl _ _ rfl w2.heap.size _ _ M rfl rfl EM.out EM.out (by omega) (Nat.le_refl _) ?_); intro w3 hown3 hb3 hz3)
  obtain ⟨g3, hg3⟩ : ∃ g, w2.heap.size = g := ⟨_, rfl⟩
  have S3 := Lib.hid (S2.out.below (hb3.mono (by omega)))
  have O3 := Lib.hid (O2.out.below hb3 hgt)
  have Q3 := Lib.hid (own_of hown3)
  have B3 := Lib.hid (B2.out.trans (hb3.mono (by have := sz1.out; omega)))
  rw [hg3] at Q3 hgt hz3
  rw [hg3]
  clear S2 O2 B2 hown3 hb3 hg3
  have hgt' := Lib.hid hgt
  have s12 := Lib.hid (show g1 ≤ g3 by have := sz1.out; omega)
  have mb : (M : Int) ≤ 3000 := by omega
  have LL := Lib.hid S1.len
  go_loopw [38] (fun ii wx => ∃ i : Nat, ∃ r Q : List Int, ii = .int .i64 (i : Int) ∧ i ≤ M ∧ Own wx g2 (a + 1) r ∧ Own wx g3 M Q ∧ Sl wx g2 (some ⟨g1, 0, none⟩) b (b + 1) l ∧ Below g1 w wx ∧ LongAt (natV x * pw s) (natV l) (M - i) Q r) (fun ii _ => M - (intOf ii).toNat)
  case atStart => exact ⟨0, r0, _, rfl, by omega, O3.out, Q3.out, S3.out, B3.out, st0.out⟩
  case round =>
    obtain ⟨i, r, Q, rfl, hi, hr, hq, hd, hB, hI⟩ := hrel
    clear st0 O3 Q3 S3 B3 S1
    by_cases hlt : i < M
    · obtain ⟨k, hk⟩ : ∃ k, M - 1 - i = k := ⟨_, rfl⟩
      have ek : (M : Int) - 1 - (i : Int) = (k : Int) := by omega
      have k0 : (0 : Int) ≤ (k : Int) := by omega
      have kM : k < M := by omega
      have kM' : (k : Int) < (M : Int) := by omega
      have ilt : (i : Int) < (M : Int) := by omega
      have i0 : (0 : Int) ≤ (i : Int) := by omega
      have wk : IntKind.i64.wrap ((M : Int) - 1 - (i : Int)) = (k : Int) := by rw [ek, IntKind.wrap_i64]; omega
      rw [show M - i = k + 1 by omega] at hI
      have KN := long_knuth hd.lim LL.out b2 (by have := NT.out; omega) hI
      obtain ⟨KN, kn2, kn3, kn4, kn5⟩ := KN
      have ka : (k : Int) ≤ (a : Int) + 1 := by omega
      have GU := Lib.hid (guess_any g2 (a + 1) k (a + 1 - k) b (b + 1) (some ⟨g1, 0, none⟩) r l _ hr hI.rl (hd.more (Nat.le_of_lt hr.lt)) (by omega) (by omega) b2 (by omega) _ _ _ _ _ _ _ _ _ _ KN rfl rfl rfl rfl rfl kn2 kn3 NT.out)
      have hr := Lib.hid hr; have hq := Lib.hid hq; have hd := Lib.hid hd; have hB := Lib.hid hB; have hI := Lib.hid hI; have kn4 := Lib.hid kn4
      clear KN kn2 kn3
      go_wp2_with fail
      refine GU.out.mono ?_
      rintro e wy ⟨G, rfl, ⟨z, rfl⟩, gl, gq, gq1⟩
      have SB := Lib.hid (subt_any g2 (a + 1) k (a + 1 - k) b (b + 1) (some ⟨g1, 0, none⟩) r l G _ (show Own (World.drewN _ z) g2 (a + 1) r from hr.out) hI.out.rl (hd.out.drewN z) (by omega) (by omega) (by omega) gl)
      have hq1 := Lib.hid (show Own (World.drewN _ z) g3 M Q from hq.out)
      have hd1 := Lib.hid (hd.out.drewN z)
      have hB1 := Lib.hid (below_drewN hB.out z)
      have gq := Lib.hid gq
      have gq1 := Lib.hid gq1
      clear GU hr hq hd hB
      obtain ⟨g0, gb⟩ := gl
      go_wp2_with fail
      refine SB.out.mono ?_
      rintro e w4 ⟨R, o1, rfl, ho, only, ol, ov, oz⟩
      have oz' : ∀ t : Nat, k + b + 1 ≤ t → digV o1 t = 0 := fun t ht => by rw [oz t (.inr ht)]; exact kn4.out t ht
      have hq2 := hq1.out.only only (by omega)
      have hd2 := Lib.hid (hd1.out.below (only.below (Nat.le_refl _)))
      have hB2 := Lib.hid (hB1.out.trans (only.below sz1.out))
      have qlen := hq2.len
      cases R
      · have eo : natV o1 = natV r - pw (32 * (k : Int)) * (G * natV l) := by simpa using ov
        have eG := guess_right kn5 ol eo gq.out
        have stp := Lib.hid (long_step kn5 hI.out ol (by rw [qlen]; exact kM) ⟨g0, gb⟩ eG eo)
        have cell := row_cell hq2 k kM
        have fr : World.frozen? _ ⟨g3, k, none⟩ = false := hq2.frozenAt k
        have Hset := Lib.hid (own_of (row_set hq2 k G))
        have ho := Lib.hid ho
        generalize digV Q k = Qk at *
        clear SB hq1 hd1 hB1 gq gq1 only ol ov oz oz' hq2 qlen eo eG hI kn4
        go_wp2
        go_roundw
        case rel => exact ⟨i + 1, o1, _, by go_num, by omega, ho.out.only ((Only.refl g3 _).setCell _ _) (by omega), Hset.out, hd2.out.below (((Only.refl g3 _).setCell _ _).below (by omega)), hB2.out.trans (((Only.refl g3 _).setCell _ _).below (by have := s12.out; omega)), by rw [show M - (i + 1) = k by omega]; exact stp.out⟩
        case measure => simp [intOf]; omega
      · have eo : natV o1 = natV r - pw (32 * (k : Int)) * (G * natV l) + pw (32 * ((k + b + 1 : Nat) : Int)) := by simpa using ov
        have eG := guess_over (n := b) kn5 ol oz' eo gq.out gq1.out
        have wg : IntKind.u32.wrap (G - 1) = G - 1 := by
          have : 0 ≤ natV r / pw (32 * (k : Int)) / natV l := Int.ediv_nonneg (Int.ediv_nonneg (natV_nonneg hI.out.rl) (Int.le_of_lt (pw_pos _))) (by omega)
          rw [IntKind.wrap_u32]; omega
        have g10 : 0 ≤ G - 1 := by
          have : 0 ≤ natV r / pw (32 * (k : Int)) / natV l := Int.ediv_nonneg (Int.ediv_nonneg (natV_nonneg hI.out.rl) (Int.le_of_lt (pw_pos _))) (by omega)
          omega
        have BK := Lib.hid (back_any g2 (a + 1) k (a + 1 - k) b (b + 1) (some ⟨g1, 0, none⟩) o1 l _ ho ol hd2.out (by omega) (by omega) (by omega))
        replace hq2 := Lib.hid hq2
        replace oz' := Lib.hid oz'
        replace eo := Lib.hid eo
        replace eG := Lib.hid eG
        clear SB hq1 hd1 hB1 gq gq1 only ol ov oz kn4 ho
        go_wp2_with fail
        refine BK.out.mono ?_
        rintro e w5 ⟨zz, o2, rfl, ho2, only2, ol2, ov2, z0, z1, oz2⟩
        have hq3 := hq2.out.only only2 (by omega)
        have eq2 : natV o2 = natV r - pw (32 * (k : Int)) * ((G - 1) * natV l) := back_right (n := b) (o := o1) (z := zz) kn5 ol2 (fun t ht => by rw [oz2 t (.inr ht)]; exact oz'.out t ht) (by have := eG.out; omega) (by rw [Int.sub_add_cancel]; exact eo.out) z0 z1 ov2
        have stp := Lib.hid (long_step kn5 hI.out ol2 (by rw [qlen]; exact kM) ⟨g10, by omega⟩ (by have := eG.out; omega) eq2)
        have hd3 := Lib.hid (hd2.out.below (only2.below (Nat.le_refl _)))
        have hB3 := Lib.hid (hB2.out.trans (only2.below sz1.out))
        have cell := row_cell hq3 k kM
        have fr : World.frozen? _ ⟨g3, k, none⟩ = false := hq3.frozenAt k
        have Hset := Lib.hid (own_of (row_set hq3 k (G - 1)))
        have ho2 := Lib.hid ho2
        generalize digV Q k = Qk at *
        clear BK hq2 hd2 hB2 only2 ol2 ov2 oz2 hq3 qlen eo eG hI z0 z1 eq2 oz'
        go_wp2
        go_roundw
        case rel => exact ⟨i + 1, o2, _, by go_num, by omega, ho2.out.only ((Only.refl g3 _).setCell _ _) (by omega), Hset.out, hd3.out.below (((Only.refl g3 _).setCell _ _).below (by omega)), hB3.out.trans (((Only.refl g3 _).setCell _ _).below (by have := s12.out; omega)), by rw [show M - (i + 1) = k by omega]; exact stp.out⟩
        case measure => simp [intOf]; omega
    · obtain rfl : i = M := by omega
      rw [Nat.sub_self] at hI
      have E := long_end hI
      have ps := pw_pos s
      have q1 : natV Q = natV x / natV y := by rw [E.1, LV.out]; exact Int.mul_ediv_mul_of_pos_left _ _ ps
      have r1 : natV r = natV x % natV y * pw s := by rw [E.2, LV.out, Int.mul_comm (natV x), Int.mul_comm (natV y), Int.mul_emod_mul_of_pos _ _ ps, Int.mul_comm]
      have DN := Lib.hid (ndown_any g2 (a + 1) r s _ hr hI.rl (by omega) s0 s1)
      have r2 : Hid (natV r / pw s = natV x % natV y) := by unfold Hid; rw [r1]; exact Int.mul_ediv_cancel _ (by omega)
      have hge : ¬ (i : Int) < (i : Int) := by omega
      have q1 := Lib.hid q1
      have ql := Lib.hid hI.ql
      have hq := Lib.hid hq
      have hB := Lib.hid hB
      clear E hI r1 hr hd
      go_wp2_with fail
      refine DN.out.mono ?_
      rintro e w4 ⟨o4, rfl, ho, ol, ov, only⟩
      have fin : Hid (LongPost (natV x / natV y) (natV x % natV y) w (.returned (.tuple #[.slice (some ⟨g3, 0, none⟩) i i, .slice (some ⟨g2, 0, none⟩) (a + 1) (a + 1)])) w4) :=
        ⟨g3, g2, i, a + 1, Q, o4, rfl, by rw [HG1.out]; exact sz1.out, by rw [HG1.out]; exact s12.out, hq.out.only only (by omega), ho, ql.out, ol, q1.out, by rw [ov]; exact r2.out, by omega, by omega, by rw [HG1.out]; exact hB.out.trans (only.below sz1.out)⟩
      clear ho ol ov only DN r2 q1 ql hq hB
      go_wp2
      go_ret2
      exact fin.out
end Go.Proofs.YtmjidpkddiinaaaDoor

/-
  Package nat: what is too big; DivMod: walked.
-/
namespace Go.Proofs.YtmjidpkddiinaaaDoor
open Go.RowKit Go.Shelf

/-- Two right lists of the call's own, and an error. -/
def NatR2Post (er q r : Int) (w : World) (e : Ending) (w' : World) : Prop :=
  ∃ (A : Option Addr) (n c : Nat) (l : List Int) (B : Option Addr) (m d : Nat) (k : List Int), e = .returned (.tuple #[.slice A n c, .slice B m d, .int .i64 er]) ∧ (Sl w' w'.heap.size A n c l ∧ Norm l ∧ natV l = q ∧ Fresh w.heap.size A) ∧ (Sl w' w'.heap.size B m d k ∧ Norm k ∧ natV k = r ∧ Fresh w.heap.size B) ∧ Below w.heap.size w w'
theorem nil_part (w w' : World) : Sl w' w'.heap.size none 0 0 [] ∧ Norm [] ∧ natV [] = 0 ∧ Fresh w.heap.size none := ⟨Sl.nil_ _ _, norm_nil, rfl, fun _ e => by cases e⟩
theorem NatR2Post.nil {er : Int} {w w' : World} (hb : Below w.heap.size w w') : NatR2Post er 0 0 w (.returned (.tuple #[.slice none 0 0, .slice none 0 0, .int .i64 er])) w' := ⟨none, 0, 0, [], none, 0, 0, [], rfl, nil_part w w', nil_part w w', hb⟩
def divE (a b : Int) : Int := if a < pw 8192 ∧ b < pw 8192 then (if b = 0 then 10 else 0) else 2
def divQ (a b : Int) : Int := if (a < pw 8192 ∧ b < pw 8192) ∧ b ≠ 0 then a / b else 0
def divR (a b : Int) : Int := if (a < pw 8192 ∧ b < pw 8192) ∧ b ≠ 0 then a % b else 0
theorem div_no {a b : Int} (h : ¬ (a < pw 8192 ∧ b < pw 8192)) : divE a b = 2 ∧ divQ a b = 0 ∧ divR a b = 0 := by
  unfold divE divQ divR
  rw [if_neg h, if_neg (fun z => h z.1), if_neg (fun z => h z.1)]
  exact ⟨rfl, rfl, rfl⟩
theorem div_zero {a b : Int} (h : a < pw 8192 ∧ b < pw 8192) (hz : b = 0) : divE a b = 10 ∧ divQ a b = 0 ∧ divR a b = 0 := by
  unfold divE divQ divR
  rw [if_pos h, if_pos hz, if_neg (fun z => z.2 hz), if_neg (fun z => z.2 hz)]
  exact ⟨rfl, rfl, rfl⟩
theorem div_ok {a b : Int} (h : a < pw 8192 ∧ b < pw 8192) (hz : b ≠ 0) : divE a b = 0 ∧ divQ a b = a / b ∧ divR a b = a % b := by
  unfold divE divQ divR
  rw [if_pos h, if_neg hz, if_pos ⟨h, hz⟩, if_pos ⟨h, hz⟩]
  exact ⟨rfl, rfl, rfl⟩
set_option maxHeartbeats 2000000 in
theorem nadd_over (A B : Option Addr) (n m c d : Nat) (a b : List Int) (w : World) (h : Sl w w.heap.size A n c a) (h' : Sl w w.heap.size B m d b) (hn : n ≤ 3000) (hm : m ≤ 3000) (hov : ¬ (natV a < pw 8192 ∧ natV b < pw 8192)) :
    Calls Tryd.prog 23 #[.slice A n c, .slice B m d] w (NatRPost 2 0 w) := by
  have FT := Lib.hid (fits_any w.heap.size [(A, n, c, a), (B, m, d, b)] (w.alloc (.cells #[.slice A n c, .slice B m d] 26)) (lists_two h (by omega) h' (by omega)) (by simp))
  have e1 : decide (∀ x ∈ [(A, n, c, a), (B, m, d, b)], natV x.2.2.2 < pw 8192) = false := by simpa using hov
  rw [e1] at FT
  have b1 := Lib.hid (below_new w (.cells #[.slice A n c, .slice B m d] 26))
  clear e1 h h' hov
  go_enter Tryd.func23, Tryd.ntmps23
  go_wp2_with fail
  refine FT.out.mono ?_
  rintro e w1 ⟨rfl, rfl⟩
  have fin := Lib.hid (NatRPost.nil (er := 2) b1.out)
  go_wp2
  go_ret2
  exact fin.out
set_option maxHeartbeats 2000000 in
theorem nsub_over (A B : Option Addr) (n m c d : Nat) (a b : List Int) (w : World) (h : Sl w w.heap.size A n c a) (h' : Sl w w.heap.size B m d b) (hn : n ≤ 3000) (hm : m ≤ 3000) (hov : ¬ (natV a < pw 8192 ∧ natV b < pw 8192)) :
    Calls Tryd.prog 25 #[.slice A n c, .slice B m d] w (NatRPost 2 0 w) := by
  have FT := Lib.hid (fits_any w.heap.size [(A, n, c, a), (B, m, d, b)] (w.alloc (.cells #[.slice A n c, .slice B m d] 26)) (lists_two h (by omega) h' (by omega)) (by simp))
  have e1 : decide (∀ x ∈ [(A, n, c, a), (B, m, d, b)], natV x.2.2.2 < pw 8192) = false := by simpa using hov
  rw [e1] at FT
  have b1 := Lib.hid (below_new w (.cells #[.slice A n c, .slice B m d] 26))
  clear e1 h h' hov
  go_enter Tryd.func25, Tryd.ntmps25
  go_wp2_with fail
  refine FT.out.mono ?_
  rintro e w1 ⟨rfl, rfl⟩
  have fin := Lib.hid (NatRPost.nil (er := 2) b1.out)
  go_wp2
  go_ret2
  exact fin.out
set_option maxHeartbeats 2000000 in
theorem nmul_over (A B : Option Addr) (n m c d : Nat) (a b : List Int) (w : World) (h : Sl w w.heap.size A n c a) (h' : Sl w w.heap.size B m d b) (hn : n ≤ 3000) (hm : m ≤ 3000) (hov : ¬ (natV a < pw 8192 ∧ natV b < pw 8192)) :
    Calls Tryd.prog 27 #[.slice A n c, .slice B m d] w (NatRPost 2 0 w) := by
  have FT := Lib.hid (fits_any w.heap.size [(A, n, c, a), (B, m, d, b)] (w.alloc (.cells #[.slice A n c, .slice B m d] 26)) (lists_two h (by omega) h' (by omega)) (by simp))
  have e1 : decide (∀ x ∈ [(A, n, c, a), (B, m, d, b)], natV x.2.2.2 < pw 8192) = false := by simpa using hov
  rw [e1] at FT
  have b1 := Lib.hid (below_new w (.cells #[.slice A n c, .slice B m d] 26))
  clear e1 h h' hov
  go_enter Tryd.func27, Tryd.ntmps27
  go_wp2_with fail
  refine FT.out.mono ?_
  rintro e w1 ⟨rfl, rfl⟩
  have fin := Lib.hid (NatRPost.nil (er := 2) b1.out)
  go_wp2
  go_ret2
  exact fin.out
set_option maxHeartbeats 2000000 in
theorem ndiv_over (A B : Option Addr) (n m c d : Nat) (a b : List Int) (w : World) (h : Sl w w.heap.size A n c a) (h' : Sl w w.heap.size B m d b) (hn : n ≤ 3000) (hm : m ≤ 3000) (hov : ¬ (natV a < pw 8192 ∧ natV b < pw 8192)) :
    Calls Tryd.prog 29 #[.slice A n c, .slice B m d] w (NatR2Post 2 0 0 w) := by
  have FT := Lib.hid (fits_any w.heap.size [(A, n, c, a), (B, m, d, b)] (w.alloc (.cells #[.slice A n c, .slice B m d] 26)) (lists_two h (by omega) h' (by omega)) (by simp))
  have e1 : decide (∀ x ∈ [(A, n, c, a), (B, m, d, b)], natV x.2.2.2 < pw 8192) = false := by simpa using hov
  rw [e1] at FT
  have b1 := Lib.hid (below_new w (.cells #[.slice A n c, .slice B m d] 26))
  clear e1 h h' hov
  go_enter Tryd.func29, Tryd.ntmps29
  go_wp2_with fail
  refine FT.out.mono ?_
  rintro e w1 ⟨rfl, rfl⟩
  have fin := Lib.hid (NatR2Post.nil (er := 2) b1.out)
  go_wp2
  go_ret3
  exact fin.out
set_option maxRecDepth 100000 in
set_option maxHeartbeats 4000000 in
theorem ndiv_any (A B : Option Addr) (n m c d : Nat) (a b : List Int) (w : World) (h : Sl w w.heap.size A n c a) (h' : Sl w w.heap.size B m d b) (hn : n ≤ 3000) (hm : m ≤ 3000) :
    Calls Tryd.prog 29 #[.slice A n c, .slice B m d] w (NatR2Post (divE (natV a) (natV b)) (divQ (natV a) (natV b)) (divR (natV a) (natV b)) w) := by
  by_cases hov : natV a < pw 8192 ∧ natV b < pw 8192
  case neg =>
    obtain ⟨e1, e2, e3⟩ := div_no hov
    rw [e1, e2, e3]
    exact ndiv_over A B n m c d a b w h h' hn hm hov
  case pos =>
  obtain ⟨E0, Q0, R0, hE⟩ : ∃ E0 Q0 R0, divE (natV a) (natV b) = E0 ∧ divQ (natV a) (natV b) = Q0 ∧ divR (natV a) (natV b) = R0 := ⟨_, _, _, rfl, rfl, rfl⟩
  rw [hE.1, hE.2.1, hE.2.2]
  replace hE := Lib.hid hE
  have FT := Lib.hid (fits_any w.heap.size [(A, n, c, a), (B, m, d, b)] (w.alloc (.cells #[.slice A n c, .slice B m d] 26)) (lists_two h (by omega) h' (by omega)) (by simp))
  have e1 : decide (∀ x ∈ [(A, n, c, a), (B, m, d, b)], natV x.2.2.2 < pw 8192) = true := by simpa using hov
  rw [e1] at FT
  have CA := Lib.hid (core_sl A n c a _ (h.alloc (.cells #[.slice A n c, .slice B m d] 26)) (by omega))
  have CB := Lib.hid (core_sl B m d b _ (h'.alloc (.cells #[.slice A n c, .slice B m d] 26)) (by omega))
  have b1 := Lib.hid (below_new w (.cells #[.slice A n c, .slice B m d] 26))
  have HA := Lib.hid (h.alloc (.cells #[.slice A n c, .slice B m d] 26))
  have HB := Lib.hid (h'.alloc (.cells #[.slice A n c, .slice B m d] 26))
  have hov := Lib.hid hov
  clear e1 h h'
  go_enter Tryd.func29, Tryd.ntmps29
  go_wp2_with fail
  refine FT.out.mono ?_
  rintro e w1 ⟨rfl, rfl⟩
  go_wp2_with fail
  refine CA.out.mono ?_
  rintro e w1 ⟨k, kn, nk, ek, rfl, rfl⟩
  go_wp2_with fail
  refine CB.out.mono ?_
  rintro e w1 ⟨j, jm, nj, ej, rfl, rfl⟩
  have SA := Lib.hid (HA.out.take kn)
  have SB := Lib.hid (HB.out.take jm)
  replace hov := Lib.hid (show natV (a.take k) < pw 8192 ∧ natV (b.take j) < pw 8192 by rw [ek, ej]; exact hov.out)
  have DV := Lib.hid (show divE (natV (a.take k)) (natV (b.take j)) = E0 ∧ divQ (natV (a.take k)) (natV (b.take j)) = Q0 ∧ divR (natV (a.take k)) (natV (b.take j)) = R0 by rw [ek, ej]; exact hE.out)
  clear hE
  generalize w.alloc (.cells #[.slice A n c, .slice B m d] 26) = W at *
  clear HA HB FT CA CB ek ej
  have kb : k ≤ 3000 := by omega
  have jb : j ≤ 3000 := by omega
  have kb' : (k : Int) ≤ 3000 := by omega
  have jb' : (j : Int) ≤ 3000 := by omega
  generalize a.take k = x at *
  generalize b.take j = y at *
  by_cases cz : j = 0
  · subst cz
    have ey : y = [] := List.eq_nil_of_length_eq_zero SB.out.len
    have fin : Hid (NatR2Post E0 Q0 R0 w (.returned (.tuple #[.slice none 0 0, .slice none 0 0, .int .i64 10])) W) := by
      obtain ⟨e1, e2, e3⟩ := div_zero hov.out (by rw [ey]; rfl)
      obtain ⟨d1, d2, d3⟩ := DV.out
      unfold Hid; rw [← d1, ← d2, ← d3, e1, e2, e3]
      exact NatR2Post.nil b1.out
    clear SA SB ey nk nj hov
    go_wp2
    go_ret3
    exact fin.out
  · have cz' : ¬ (j : Int) = 0 := by omega
    have cz2 : ((j : Int) == 0) = false := by simpa using cz'
    have CM := Lib.hid (ncmp_any A B k j c d x y W SA.out SB.out (by omega) (by omega))
    have y0 : 0 < natV y := natV_pos SB.out.lim nj (fun e => cz (by have := SB.out.len; rw [e] at this; simpa using this.symm))
    have DK : Hid (E0 = 0 ∧ Q0 = natV x / natV y ∧ R0 = natV x % natV y) := by
      have := div_ok hov.out (show natV y ≠ 0 by omega)
      obtain ⟨d1, d2, d3⟩ := DV.out
      unfold Hid; rw [← d1, ← d2, ← d3]; exact this
    replace y0 := Lib.hid y0
    clear DV hov
    go_wp2_with fail
    refine CM.out.mono ?_
    rintro e w2 ⟨rfl, hb2⟩
    have SA2 := Lib.hid (SA.out.on hb2)
    have SB2 := Lib.hid (SB.out.on hb2)
    have B2 := Lib.hid (b1.out.trans (hb2.mono b1.out.size))
    clear SA SB b1 CM hb2
    by_cases hlt : natV x < natV y
    · have ecm : cmpI (natV x) (natV y) = -1 := by unfold cmpI; rw [if_pos hlt]
      rw [ecm]
      have TR := Lib.hid (ntrim_any A k c x w2 SA2.out (by omega))
      have x0 := natV_nonneg SA2.out.lim
      have dk : Hid (E0 = 0 ∧ Q0 = 0 ∧ R0 = natV x) := ⟨DK.out.1, by rw [DK.out.2.1]; exact Int.ediv_eq_zero_of_lt x0 hlt, by rw [DK.out.2.2]; exact Int.emod_eq_of_lt x0 hlt⟩
      clear SA2 SB2 DK hlt x0 ecm nk nj
      go_wp2_with fail
      refine TR.out.mono ?_
      rintro e w3 ⟨A3, n3, c3, l3, rfl, h1, h2, h3, h4, h5⟩
      have fin : Hid (NatR2Post E0 Q0 R0 w (.returned (.tuple #[.slice none 0 0, .slice A3 n3 c3, .int .i64 0])) w3) := by
        obtain ⟨e1, e2, e3⟩ := dk.out
        unfold Hid; rw [e1, e2, e3]
        exact ⟨none, 0, 0, [], A3, n3, c3, l3, rfl, nil_part w w3, ⟨h1, h2, h3, h4.mono B2.out.size⟩, B2.out.trans (h5.mono B2.out.size)⟩
      clear h1 h2 h3 h4 h5 TR dk
      go_wp2
      go_ret3
      exact fin.out
    · have hle : natV y ≤ natV x := by omega
      obtain ⟨r, hr⟩ : ∃ r, cmpI (natV x) (natV y) = r := ⟨_, rfl⟩
      have r0 : ¬ r < 0 := by rw [← hr]; unfold cmpI; rw [if_neg hlt]; split <;> decide
      rw [hr]
      clear hr hlt
      by_cases c1 : j = 1
      · subst c1
        have TR := Lib.hid (ntrim_row A k c x w2 SA2.out (by omega))
        have ly := SB2.out.len
        obtain ⟨yv, rfl⟩ : ∃ yv, y = [yv] := by
          match y, ly with
          | [z], _ => exact ⟨z, rfl⟩
        have yl : Limb yv := SB2.out.lim yv (by simp)
        have yv' : natV [yv] = yv := by simp [natV]
        rw [yv'] at y0 DK hle
        have SB3 := Lib.hid SB2.out
        clear SA2 SB2 nk nj ly
        go_wp2_with fail
        refine TR.out.mono ?_
        rintro e w3 ⟨N, x3, xn, rfl, hown, xl, xN, xv, hb3⟩
        have S3 := SB3.out.below hb3
        rcases S3.rd with z | ⟨bb, oo, rfl, hbb, hc⟩
        · omega
        have cell := hc 0 (by simp)
        simp only [Nat.add_zero, List.getElem_cons_zero] at cell
        have own := own_of hown
        have DS := Lib.hid (nshort_any w2.heap.size N N N x3 yv w3 own xl (by omega) (by omega) (fun t ht => digV_ge (by rw [own.len]; exact ht)) yl y0.out)
        have B3 := Lib.hid (B2.out.trans (hb3.mono B2.out.size))
        have sz := Lib.hid B2.out.size
        have Nb : (N : Int) ≤ 3000 := by omega
        obtain ⟨yl0, yl1⟩ := yl
        rw [xv] at DS
        clear TR hown xl xN xv hb3 hc S3 own SB3
        go_wp2_with fail
        refine DS.out.mono ?_
        rintro e w4 ⟨o, rfl, hown4, ol, ov, _, only⟩
        have rd0 : 0 ≤ natV x % yv := Int.emod_nonneg _ (by have := y0.out; omega)
        have rd1 : natV x % yv < yv := Int.emod_lt_of_pos _ y0.out
        have SO := row_sl hown4 ol
        have CO := Lib.hid (core_sl _ N N o _ SO (by omega))
        have OF := Lib.hid (nof_any (natV x % yv) ⟨rd0, by omega⟩ w4)
        have SO := Lib.hid SO
        have B4 := Lib.hid (B3.out.trans (only.below sz.out))
        have ov := Lib.hid ov
        obtain ⟨rr, hrr⟩ : ∃ rr, natV x % yv = rr := ⟨_, rfl⟩
        rw [hrr] at rd0 rd1 OF
        rw [hrr]
        have RR := Lib.hid hrr.symm
        clear hrr
        clear hown4 ol only DS B3
        go_wp2_with fail
        refine CO.out.mono ?_
        rintro e w5 ⟨i, iN, ni, ei, rfl, rfl⟩
        have S5 := Lib.hid (SO.out.take iN)
        have NI := Lib.hid ni
        have EI := Lib.hid ei
        clear CO ni ei SO
        go_wp2_with fail
        refine OF.out.mono ?_
        rintro e w6 ⟨A6, n6, c6, l6, rfl, h1, h2, h3, h4, h5⟩
        have fin : Hid (NatR2Post E0 Q0 R0 w (.returned (.tuple #[.slice (some ⟨w2.heap.size, 0, none⟩) i N, .slice A6 n6 c6, .int .i64 0])) w6) := by
          obtain ⟨e1, e2, e3⟩ := DK.out
          unfold Hid; rw [e1, e2, e3]
          exact ⟨_, _, _, _, A6, n6, c6, l6, rfl, ⟨S5.out.on h5, NI.out, by rw [EI.out, ov.out], fun ad e => by cases e; exact sz.out⟩, ⟨h1, h2, h3.trans RR.out, h4.mono B4.out.size⟩, B4.out.trans (h5.mono B4.out.size)⟩
        clear h1 h2 h3 h4 h5 OF S5 NI EI
        go_wp2
        go_ret3
        exact fin.out
      · have j2 : 2 ≤ j := by omega
        have c1' : ¬ (j : Int) = 1 := by omega
        have c1b : ((j : Int) == 1) = false := by simpa using c1'
        have NL := Lib.hid (nlong_any A B k j c d x y w2 SA2.out SB2.out (by omega) nk nj j2 hle)
        clear SA2 SB2 nk nj
        go_wp2_with fail
        refine NL.out.mono ?_
        rintro e w3 ⟨g3, g2, M, N, Q, R, rfl, f2, f3, hQ, hR, ql, rl, qv, rv, Mb, Nb, hb3⟩
        have SQ := row_sl hQ ql
        have SR := row_sl hR rl
        have CQ := Lib.hid (core_sl _ M M Q w3 SQ (by omega))
        have CR := Lib.hid (core_sl _ N N R w3 SR (by omega))
        have B3 := Lib.hid (B2.out.trans (hb3.mono B2.out.size))
        have SQ := Lib.hid SQ
        have SR := Lib.hid SR
        have qv := Lib.hid qv
        have rv := Lib.hid rv
        have ff := Lib.hid (show w.heap.size ≤ g3 ∧ w.heap.size ≤ g2 by have := B2.out.size; omega)
        have Mb' : (M : Int) ≤ 3000 := by omega
        have Nb' : (N : Int) ≤ 3001 := by omega
        clear hQ hR ql rl hb3 NL f2 f3
        go_wp2_with fail
        refine CQ.out.mono ?_
        rintro e w5 ⟨i, iN, ni, ei, rfl, rfl⟩
        have S5 := Lib.hid (SQ.out.take iN)
        have NI := Lib.hid ni
        have EI := Lib.hid ei
        clear CQ ni ei SQ
        go_wp2_with fail
        refine CR.out.mono ?_
        rintro e w6 ⟨i2, iN2, ni2, ei2, rfl, rfl⟩
        have fin : Hid (NatR2Post E0 Q0 R0 w (.returned (.tuple #[.slice (some ⟨g3, 0, none⟩) i M, .slice (some ⟨g2, 0, none⟩) i2 N, .int .i64 0])) w3) := by
          obtain ⟨e1, e2, e3⟩ := DK.out
          unfold Hid; rw [e1, e2, e3]
          exact ⟨_, _, _, _, _, _, _, _, rfl, ⟨S5.out, NI.out, by rw [EI.out, qv.out], fun ad e => by cases e; exact ff.out.1⟩, ⟨SR.out.take iN2, ni2, by rw [ei2, rv.out], fun ad e => by cases e; exact ff.out.2⟩, B3.out⟩
        clear ni2 ei2 CR S5 NI EI
        go_wp2
        go_ret3
        exact fin.out
end Go.Proofs.YtmjidpkddiinaaaDoor

/-
  Package nat: Value, Shr: walked.
-/
namespace Go.Proofs.YtmjidpkddiinaaaDoor
open Go.RowKit Go.Shelf

def valB (v : Int) : Bool := decide (v < 18446744073709551616)
def valV (v : Int) : Int := if v < 18446744073709551616 then v else 0
theorem val_ok {v : Int} (h : v < 18446744073709551616) : valV v = v ∧ valB v = true := by unfold valV valB; rw [if_pos h]; simpa using h
theorem val_no {v : Int} (h : 18446744073709551616 ≤ v) : valV v = 0 ∧ valB v = false := by unfold valV valB; rw [if_neg (by omega)]; simpa using h
set_option maxHeartbeats 2000000 in
theorem nvalue_any (A : Option Addr) (n c : Nat) (l : List Int) (w : World) (h : Sl w w.heap.size A n c l) (hn : n ≤ 30000) :
    Calls Tryd.prog 17 #[.slice A n c] w fun e w' => e = .returned (.tuple #[.int .u64 (valV (natV l)), .bool (valB (natV l))]) ∧ Below w.heap.size w w' := by
  have CO := Lib.hid (core_sl A n c l w h hn)
  have H := Lib.hid h
  obtain ⟨V, B, hV⟩ : ∃ V B, valV (natV l) = V ∧ valB (natV l) = B := ⟨_, _, rfl, rfl⟩
  rw [hV.1, hV.2]
  replace hV := Lib.hid hV
  clear h
  go_enter Tryd.func17, Tryd.ntmps17
  go_wp2_with fail
  refine CO.out.mono ?_
  rintro e w1 ⟨k, kn, nk, ek, rfl, rfl⟩
  have S := H.out.take kn
  have HV := Lib.hid (show valV (natV (l.take k)) = V ∧ valB (natV (l.take k)) = B by rw [ek]; exact hV.out)
  have kb : (k : Int) ≤ 30000 := by omega
  clear H CO hV ek
  generalize l.take k = x at *
  rcases Nat.lt_or_ge k 3 with k3 | k3
  · rcases (show k = 0 ∨ k = 1 ∨ k = 2 by omega) with rfl | rfl | rfl
    · obtain rfl : x = [] := List.eq_nil_of_length_eq_zero S.len
      have e1 := HV.out
      have e2 := val_ok (v := natV []) (by decide)
      rw [e2.1, e2.2] at e1
      obtain ⟨rfl, rfl⟩ := e1
      clear S nk e2 HV
      go_wp2
      go_ret2
      exact ⟨rfl, Below.refl _ _⟩
    · have lx := S.len
      obtain ⟨p, rfl⟩ : ∃ p, x = [p] := by
        match x, lx with
        | [z], _ => exact ⟨z, rfl⟩
      have pl : Limb p := S.lim p (by simp)
      obtain ⟨p0, p1⟩ := pl
      have e1 := HV.out
      have ev : natV [p] = p := by simp [natV]
      rw [ev] at e1
      have e2 := val_ok (v := p) (by omega)
      rw [e2.1, e2.2] at e1
      obtain ⟨rfl, rfl⟩ := e1
      rcases S.rd with z | ⟨b, o, rfl, hb, hc⟩
      · omega
      have cell := hc 0 (by simp)
      simp only [Nat.add_zero, List.getElem_cons_zero] at cell
      clear S nk e2 HV hc ev lx
      go_wp2
      go_ret2
      exact ⟨rfl, Below.refl _ _⟩
    · have lx := S.len
      obtain ⟨p, q, rfl⟩ : ∃ p q, x = [p, q] := by
        match x, lx with
        | [z, y], _ => exact ⟨z, y, rfl⟩
      have pl : Limb p := S.lim p (by simp)
      have ql : Limb q := S.lim q (by simp)
      have OR := or_limb ql pl
      obtain ⟨p0, p1⟩ := pl
      obtain ⟨q0, q1⟩ := ql
      have e1 := HV.out
      have ev : natV [p, q] = q * 4294967296 + p := by simp [natV]; omega
      rw [ev] at e1
      have e2 := val_ok (v := q * 4294967296 + p) (by omega)
      rw [e2.1, e2.2] at e1
      obtain ⟨e1, rfl⟩ := e1
      rw [e1] at OR
      rcases S.rd with z | ⟨b, o, rfl, hb, hc⟩
      · omega
      have cell := hc 0 (by simp)
      have cell1 := hc 1 (by simp)
      simp only [Nat.add_zero, List.getElem_cons_zero] at cell
      simp only [List.getElem_cons_succ, List.getElem_cons_zero] at cell1
      have wq : IntKind.u64.wrap (q * 4294967296) = q * 4294967296 := by rw [IntKind.wrap_u64]; omega
      clear S nk e2 HV hc ev lx e1
      go_wp2
      go_quiet (fail)
      go_wp2
      go_ret2
      exact ⟨rfl, below_drewN (Below.refl _ _) _⟩
  · have ge := norm_ge S.lim nk (k := 2) (by rw [S.len]; omega)
    rw [show pw (32 * ((2 : Nat) : Int)) = 18446744073709551616 from rfl] at ge
    have e1 := HV.out
    have e2 := val_no ge
    rw [e2.1, e2.2] at e1
    obtain ⟨rfl, rfl⟩ := e1
    have z0 : ((k : Int) == 0) = false := by simp; omega
    have z1 : ((k : Int) == 1) = false := by simp; omega
    have z2 : ((k : Int) == 2) = false := by simp; omega
    have n0 : ¬ (k : Int) = 0 := by omega
    have n1 : ¬ (k : Int) = 1 := by omega
    have n2 : ¬ (k : Int) = 2 := by omega
    clear S nk e2 HV ge
    go_wp2
    go_ret2
    exact ⟨rfl, Below.refl _ _⟩
end Go.Proofs.YtmjidpkddiinaaaDoor

/-
  Package nat: Shr: walked.
-/
namespace Go.Proofs.YtmjidpkddiinaaaDoor
open Go.RowKit Go.Shelf

theorem mod_both (v p q : Int) (hp : 0 < p) (_hq : 0 < q) : v % (p * q) = 0 ↔ (v % p = 0 ∧ v / p % q = 0) := by
  constructor
  · intro h
    have d : p * q ∣ v := Int.dvd_of_emod_eq_zero h
    obtain ⟨k, rfl⟩ := d
    rw [Int.mul_assoc]
    refine ⟨Int.mul_emod_right _ _, ?_⟩
    rw [Int.mul_ediv_cancel_left _ (by omega)]
    exact Int.mul_emod_right _ _
  · rintro ⟨h1, h2⟩
    obtain ⟨k, rfl⟩ := Int.dvd_of_emod_eq_zero h1
    rw [Int.mul_ediv_cancel_left _ (by omega)] at h2
    obtain ⟨j, rfl⟩ := Int.dvd_of_emod_eq_zero h2
    rw [← Int.mul_assoc]; exact Int.mul_emod_right _ _
theorem shr_math {x : List Int} {j : Nat} {t n : Int} (hx : ∀ y ∈ x, Limb y) (t0 : 0 ≤ t) (t1 : t ≤ 31) (hn : n = 32 * (j : Int) + t) (hj : j ≤ x.length) :
    natV (x.drop j) / pw t = natV x / pw n ∧ (natV x % pw n = 0 ↔ (natV (x.take j) = 0 ∧ digV x j % pw t = 0)) := by
  have e := natV_split x j hj
  have p := pw_pos (32 * (j : Int))
  have pt := pw_pos t
  have lo := natV_take_lt hx j
  have lo0 := natV_nonneg (limbs_take hx j)
  have epw : pw n = pw (32 * (j : Int)) * pw t := by rw [hn, pw_add _ _ (by omega) t0]
  have u : natV x / pw (32 * (j : Int)) = natV (x.drop j) := by
    rw [e, Int.add_mul_ediv_left _ _ (by omega), Int.ediv_eq_zero_of_lt lo0 lo]; omega
  have m : natV x % pw (32 * (j : Int)) = natV (x.take j) := by
    rw [e, Int.add_mul_emod_self_left, Int.emod_eq_of_lt lo0 lo]
  refine ⟨by rw [epw, ← u, Int.ediv_ediv_of_nonneg (by omega)], ?_⟩
  rw [epw, mod_both _ _ _ p pt, m]
  have d := natV_dig hx j
  rw [← d, Int.emod_emod_of_dvd]
  have : pw t * pw (32 - t) = 4294967296 := by rw [← pw_add _ _ t0 (by omega), show t + (32 - t) = 32 by omega]; rfl
  exact ⟨pw (32 - t), this.symm⟩
theorem shl_left {c t : Int} (t0 : 0 ≤ t) (t1 : t ≤ 31) : c * pw (32 - t) % 4294967296 = 0 ↔ c % pw t = 0 := by
  have e : pw t * pw (32 - t) = 4294967296 := by rw [← pw_add _ _ t0 (by omega), show t + (32 - t) = 32 by omega]; rfl
  have p := pw_pos (32 - t)
  rw [← e, Int.mul_comm c, Int.mul_comm (pw t), Int.mul_emod_mul_of_pos _ _ p]
  constructor
  · intro h
    rcases Int.mul_eq_zero.1 h with z | z
    · omega
    · exact z
  · intro h; rw [h]; omega
theorem Sl.drop {w : World} {B b o : Nat} {n c k : Nat} {l : List Int} (h : Sl w B (some ⟨b, o, none⟩) n c l) (hk : k ≤ n) : Sl w B (some ⟨b, o + k, none⟩) (n - k) (c - k) (l.drop k) := by
  have hl := h.len
  have hm := h.max
  have hc' := h.cap
  refine ⟨by rw [List.length_drop, hl], by omega, by omega, limbs_drop h.lim k, (fun e => by cases e), ?_⟩
  rcases h.rd with h0 | ⟨b', o', hA, hb, hc⟩
  · exact .inl (by omega)
  · cases hA
    exact .inr ⟨b, o + k, rfl, hb, fun i hi => by
      rw [List.length_drop] at hi
      rw [Nat.add_assoc, hc (k + i) (by omega), List.getElem_drop]⟩
def shrE (a n : Int) : Int := if n < 0 then 1 else if a < pw 8192 then 0 else 2
def shrV (a n : Int) : Int := if n < 0 then 0 else if a < pw 8192 then a / pw n else 0
def shrL (a n : Int) : Bool := if n < 0 then false else if a < pw 8192 then decide (a % pw n ≠ 0) else false
/-- A right list of the call's own, a bool, and an error. -/
def NatBRPost (er v : Int) (b : Bool) (w : World) (e : Ending) (w' : World) : Prop :=
  ∃ (A : Option Addr) (n c : Nat) (l : List Int), e = .returned (.tuple #[.slice A n c, .bool b, .int .i64 er]) ∧ Sl w' w'.heap.size A n c l ∧ Norm l ∧ natV l = v ∧ Fresh w.heap.size A ∧ Below w.heap.size w w'
theorem NatBRPost.nil {er : Int} {b : Bool} {w w' : World} (hb : Below w.heap.size w w') : NatBRPost er 0 b w (.returned (.tuple #[.slice none 0 0, .bool b, .int .i64 er])) w' := ⟨none, 0, 0, [], rfl, Sl.nil_ _ _, norm_nil, rfl, (fun _ e => by cases e), hb⟩
set_option maxRecDepth 100000 in
set_option maxHeartbeats 4000000 in
theorem nshr_ok (A : Option Addr) (n c : Nat) (a : List Int) (s : Int) (w : World) (h : Sl w w.heap.size A n c a) (hn : n ≤ 3000) (s0 : 0 ≤ s) (smax : s ≤ 9223372036854775807) (ha : natV a < pw 8192) :
    Calls Tryd.prog 33 #[.slice A n c, .int .i64 s] w (NatBRPost 0 (natV a / pw s) (decide (natV a % pw s ≠ 0)) w) := by
  have FT := Lib.hid (fits_any w.heap.size [(A, n, c, a)] (w.alloc (.cells #[.slice A n c] 26)) (lists_one h (by omega)) (by simp))
  have e1 : decide (∀ x ∈ [(A, n, c, a)], natV x.2.2.2 < pw 8192) = true := by simpa using ha
  rw [e1] at FT
  have CA := Lib.hid (core_sl A n c a _ (h.alloc (.cells #[.slice A n c] 26)) (by omega))
  have b1 := Lib.hid (below_new w (.cells #[.slice A n c] 26))
  have HA := Lib.hid (h.alloc (.cells #[.slice A n c] 26))
  obtain ⟨V, R, hV⟩ : ∃ V R, natV a / pw s = V ∧ decide (natV a % pw s ≠ 0) = R := ⟨_, _, rfl, rfl⟩
  rw [hV.1, hV.2]
  replace hV := Lib.hid hV
  have s0' : ¬ s < 0 := by omega
  clear e1 h
  go_enter Tryd.func33, Tryd.ntmps33
  go_wp2_with fail
  refine FT.out.mono ?_
  rintro e w1 ⟨rfl, rfl⟩
  go_wp2_with fail
  refine CA.out.mono ?_
  rintro e w1 ⟨k, kn, nk, ek, rfl, rfl⟩
  have SA := Lib.hid (HA.out.take kn)
  replace hV := Lib.hid (show natV (a.take k) / pw s = V ∧ decide (natV (a.take k) % pw s ≠ 0) = R by rw [ek]; exact hV.out)
  generalize w.alloc (.cells #[.slice A n c] 26) = W at *
  clear HA FT CA ek ha
  have kb : k ≤ 3000 := by omega
  have kb' : (k : Int) ≤ 3000 := by omega
  generalize a.take k = x at *
  obtain ⟨j, hj⟩ : ∃ j : Nat, s / 32 = (j : Int) := ⟨(s / 32).toNat, by omega⟩
  obtain ⟨t, ht⟩ : ∃ t, s % 32 = t := ⟨_, rfl⟩
  have t0 : 0 ≤ t := by omega
  have t1 : t ≤ 31 := by omega
  have es := Lib.hid (show s = 32 * (j : Int) + t by omega)
  by_cases hjk : k ≤ j
  · have hjk' : (k : Int) ≤ (j : Int) := by omega
    have x0 := natV_nonneg SA.out.lim
    have xl := natV_lt SA.out.lim
    rw [SA.out.len] at xl
    have pm := pw_mono (a := 32 * (k : Int)) (b := s) (by omega) (by have := es.out; omega)
    have fin : Hid (NatBRPost 0 V R w (.returned (.tuple #[.slice none 0 0, .bool (decide (0 < k)), .int .i64 0])) W) := by
      have e1 : V = 0 := by rw [← hV.out.1]; exact Int.ediv_eq_zero_of_lt x0 (by omega)
      have e2 : decide (0 < k) = R := by
        rw [← hV.out.2, Int.emod_eq_of_lt x0 (by omega)]
        congr 1
        apply propext
        constructor
        · intro z
          have := natV_pos SA.out.lim nk (fun e => by have := SA.out.len; rw [e] at this; simp at this; omega)
          omega
        · intro z
          rcases Nat.eq_zero_or_pos k with c | c
          · subst c
            rw [List.eq_nil_of_length_eq_zero SA.out.len] at z
            exact absurd rfl z
          · omega
      unfold Hid; rw [e1, e2]
      exact NatBRPost.nil b1.out
    clear SA nk hV xl x0 pm
    go_wp2
    go_ret3
    exact fin.out
  · have hjk' : (j : Int) < (k : Int) := by omega
    have SM := shr_math SA.out.lim t0 t1 es.out (by rw [SA.out.len]; omega)
    rcases SA.out.rd with z | ⟨bb, oo, rfl, hbb, hc⟩
    · omega
    have cell := hc j (by rw [SA.out.len]; omega)
    rw [← digV_lt] at cell
    have sl := shl_left (c := digV x j) t0 t1
    obtain ⟨d0, d1⟩ := digV_limb SA.out.lim j
    obtain ⟨P, hP⟩ : ∃ P, digV x j * pw (32 - t) = P := ⟨_, rfl⟩
    rw [hP] at sl
    have hx : digV x j * 2 ^ (32 - t).toNat = P := by rw [pw_eq]; exact hP
    have wt : IntKind.i64.wrap (32 - t) = 32 - t := by rw [IntKind.wrap_i64]; omega
    have tt : 0 ≤ 32 - t := by omega
    generalize digV x j = D at *
    clear hP
    have LX := Lib.hid SA.out.len
    have hc := Lib.hid hc
    have SM := Lib.hid SM
    have SL := Lib.hid sl
    have nt := Lib.hid (fun i => natV_take_dig x i)
    have lims := Lib.hid SA.out.lim
    go_wp2
    go_loopw [9, 39] (fun lv ii wx => ∃ i : Nat, ∃ L : Bool, ii = .int .i64 (i : Int) ∧ lv = .bool L ∧ i ≤ j ∧ Hid (L = true ↔ (natV (x.take i) ≠ 0 ∨ D % pw t ≠ 0)) ∧ ∃ q, W.drewN q = wx) (fun _ ii _ => j - (intOf ii).toNat)
    case atStart => exact ⟨0, _, rfl, rfl, by omega, by
        unfold Hid; rw [List.take_zero, show natV [] = 0 from rfl, bne_iff_ne]
        constructor
        · intro z; exact .inr fun y => z (SL.out.2 y)
        · rintro (z | z)
          · exact absurd rfl z
          · exact fun y => z (SL.out.1 y), 0, rfl⟩
    case round =>
      obtain ⟨i, L, rfl, rfl, hi, hL, q, rfl⟩ := hrel
      clear cell hx wt
      by_cases hlt : i < j
      · have hlt' : (i : Int) < (j : Int) := by omega
        have i0 : (0 : Int) ≤ (i : Int) := by omega
        have ik : (i : Int) < (k : Int) := by omega
        have cell := hc.out i (by rw [LX.out]; omega)
        rw [← digV_lt] at cell
        have nt1 := nt.out i
        obtain ⟨y0, y1⟩ := digV_limb lims.out i
        have z0 := natV_nonneg (limbs_take lims.out i)
        have pp := pw_pos (32 * (i : Int))
        cases L
        · have hf : natV (x.take i) = 0 ∧ D % pw t = 0 := by
            have := hL.out
            simp only [Bool.false_eq_true, ne_eq, false_iff, not_or, Decidable.not_not] at this
            exact this
          have nx : Hid ((digV x i != 0) = true ↔ (natV (x.take (i + 1)) ≠ 0 ∨ D % pw t ≠ 0)) := by
            unfold Hid; rw [nt1, hf.1, hf.2, bne_iff_ne, Int.zero_add]
            constructor
            · intro z; exact .inl fun y => by rcases Int.mul_eq_zero.1 y with u | u <;> omega
            · rintro (z | z)
              · exact fun y => z (by rw [y, Int.mul_zero])
              · exact absurd rfl z
          generalize digV x i = Y at *
          clear hL hf nt1 z0 pp hc nt SM SL lims
          go_wp2
          go_roundw
          case rel => exact ⟨i + 1, _, by go_num, rfl, by omega, nx, _, rfl⟩
          case measure => simp [intOf]; omega
        · have nx : Hid (true = true ↔ (natV (x.take (i + 1)) ≠ 0 ∨ D % pw t ≠ 0)) := by
            unfold Hid
            refine ⟨fun _ => ?_, fun _ => rfl⟩
            rcases hL.out.1 rfl with u | u
            · have := Int.mul_nonneg (Int.le_of_lt pp) y0
              exact .inl (by omega)
            · exact .inr u
          generalize digV x i = Y at *
          clear hL nt1 z0 pp hc nt SM SL lims
          go_wp2
          go_roundw
          case rel => exact ⟨i + 1, true, by go_num, rfl, by omega, nx, _, rfl⟩
          case measure => simp [intOf]; omega
      · obtain rfl : i = j := by omega
        have hge : ¬ (i : Int) < (i : Int) := by omega
        have SD := (SA.out.drewN q).drop (show i ≤ k by omega)
        have TR := Lib.hid (ntrim_row _ (k - i) (c - i) (x.drop i) (W.drewN q) SD (by omega))
        have eL : L = R := by
          rw [← hV.out.2]
          have e := SM.out.2
          have f := hL.out
          cases L
          · symm
            rw [decide_eq_false_iff_not]
            intro z
            apply z
            rw [e]
            simp only [Bool.false_eq_true, ne_eq, false_iff, not_or, Decidable.not_not] at f
            exact f
          · symm
            rw [decide_eq_true_iff]
            intro z
            rw [e] at z
            rcases f.1 rfl with u | u
            · exact u z.1
            · exact u z.2
        subst eL
        have eV := Lib.hid (show natV (x.drop i) / pw t = V by rw [SM.out.1]; exact hV.out.1)
        have ki : (i : Int) ≤ (k : Int) := by omega
        have kc := SA.out.cap
        have ci : i < c := by omega
        have ci2 : (i : Int) < (c : Int) := by omega
        have ci3 : ¬ c = i := by omega
        have ci4 : ¬ c - i = 0 := by omega
        have wsz := Lib.hid b1.out.size
        clear SD hL SM SL hc nt lims hV SA
        go_wp2_with fail
        refine TR.out.mono ?_
        rintro e w3 ⟨N, y, yn, rfl, hown, yl, yN, yv, hb3⟩
        have DN := Lib.hid (ndown_any _ N y t w3 (own_of hown) yl (by omega) t0 t1)
        have Nb : (N : Int) ≤ 3000 := by omega
        have B3 := Lib.hid ((below_drewN b1.out q).trans (hb3.mono b1.out.size))
        rw [yv] at DN
        clear TR hown yl yN yv hb3
        go_wp2_with fail
        refine DN.out.mono ?_
        rintro e w4 ⟨o, rfl, ho, ol, ov, only⟩
        have SO := row_sl ho ol
        have CO := Lib.hid (core_sl _ N N o w4 SO (by omega))
        have SO := Lib.hid SO
        have B4 := Lib.hid (B3.out.trans (only.below wsz.out))
        have ov := Lib.hid (ov.trans eV.out)
        clear DN ho ol only B3
        go_wp2_with fail
        refine CO.out.mono ?_
        rintro e w5 ⟨i2, iN, ni, ei, rfl, rfl⟩
        have fin : Hid (NatBRPost 0 V L w (.returned (.tuple #[.slice (some ⟨(W.drewN q).heap.size, 0, none⟩) i2 N, .bool L, .int .i64 0])) w4) :=
          ⟨_, _, _, _, rfl, SO.out.take iN, ni, by rw [ei, ov.out], (fun ad e => by cases e; exact wsz.out), B4.out⟩
        clear ni ei CO SO
        go_wp2
        go_ret3
        exact fin.out
set_option maxHeartbeats 2000000 in
theorem nshr_any (A : Option Addr) (n c : Nat) (a : List Int) (s : Int) (w : World) (h : Sl w w.heap.size A n c a) (hn : n ≤ 3000) (smin : -9223372036854775808 ≤ s) (smax : s ≤ 9223372036854775807) :
    Calls Tryd.prog 33 #[.slice A n c, .int .i64 s] w (NatBRPost (shrE (natV a) s) (shrV (natV a) s) (shrL (natV a) s) w) := by
  unfold shrE shrV shrL
  by_cases s0 : s < 0
  · rw [if_pos s0, if_pos s0, if_pos s0]
    have fin := Lib.hid (NatBRPost.nil (er := 1) (b := false) (Below.refl w.heap.size w))
    go_enter Tryd.func33, Tryd.ntmps33
    go_wp2
    go_ret3
    exact fin.out
  · rw [if_neg s0, if_neg s0, if_neg s0]
    by_cases ha : natV a < pw 8192
    · rw [if_pos ha, if_pos ha, if_pos ha]
      exact nshr_ok A n c a s w h hn (by omega) smax ha
    · rw [if_neg ha, if_neg ha, if_neg ha]
      have FT := Lib.hid (fits_any w.heap.size [(A, n, c, a)] (w.alloc (.cells #[.slice A n c] 26)) (lists_one h (by omega)) (by simp))
      have e1 : decide (∀ x ∈ [(A, n, c, a)], natV x.2.2.2 < pw 8192) = false := by simpa using ha
      rw [e1] at FT
      have fin := Lib.hid (NatBRPost.nil (er := 2) (b := false) (below_new w (.cells #[.slice A n c] 26)))
      clear e1 h ha
      go_enter Tryd.func33, Tryd.ntmps33
      go_wp2_with fail
      refine FT.out.mono ?_
      rintro e w1 ⟨rfl, rfl⟩
      go_wp2
      go_ret3
      exact fin.out
end Go.Proofs.YtmjidpkddiinaaaDoor

/-
  Package nat: Shl, Add, Sub, Mul of any numbers: what they answer.
-/
namespace Go.Proofs.YtmjidpkddiinaaaDoor
open Go.RowKit Go.Shelf

def shlE (a n : Int) : Int := if n < 0 then 1 else if a * pw n < pw 8192 then 0 else 2
def shlV (a n : Int) : Int := if n < 0 then 0 else if a * pw n < pw 8192 then a * pw n else 0
set_option maxRecDepth 100000 in
set_option maxHeartbeats 2000000 in
theorem nshl_all (A : Option Addr) (n c : Nat) (a : List Int) (s : Int) (w : World) (h : Sl w w.heap.size A n c a) (hn : n ≤ 2000) (smin : -9223372036854775808 ≤ s) (smax : s ≤ 9223372036854775807) :
    Calls Tryd.prog 31 #[.slice A n c, .int .i64 s] w (NatRPost (shlE (natV a) s) (shlV (natV a) s) w) := by
  unfold shlE shlV
  by_cases s0 : s < 0
  · rw [if_pos s0, if_pos s0]
    have fin := Lib.hid (NatRPost.nil (er := 1) (Below.refl w.heap.size w))
    go_enter Tryd.func31, Tryd.ntmps31
    go_wp2
    go_ret2
    exact fin.out
  · rw [if_neg s0, if_neg s0]
    by_cases hf : natV a * pw s < pw 8192
    · rw [if_pos hf, if_pos hf]
      exact (nshl_any A n c a s w h hn (by omega) hf).mono fun _ _ z => z.r
    · rw [if_neg hf, if_neg hf]
      have LN := Lib.hid (natlen_sl A n c a w h (by omega))
      have fin := Lib.hid (NatRPost.nil (er := 2) (Below.refl w.heap.size w))
      have a0 := natV_nonneg h.lim
      have az : natV a ≠ 0 := fun z => hf (by rw [z, Int.zero_mul]; exact pw_pos _)
      have HF : Hid (∀ k : Nat, Bits (natV a) k → 1 ≤ k ∧ (s ≤ 8192 → 8192 < (k : Int) + s)) := fun k hk => by
        have k1 : 1 ≤ k := by
          rcases Nat.eq_zero_or_pos k with c1 | c1
          · subst c1
            have := hk.lt
            rw [show pw ((0 : Nat) : Int) = 1 from rfl] at this
            omega
          · exact c1
        refine ⟨k1, fun hs => ?_⟩
        rcases Int.lt_or_le 8192 ((k : Int) + s) with c1 | c1
        · exact c1
        · exfalso; apply hf
          have q := Int.mul_lt_mul_of_pos_right hk.lt (pw_pos s)
          rw [← pw_add _ _ (by omega) (by omega)] at q
          have := pw_mono (a := (k : Int) + s) (b := 8192) (by omega) c1
          omega
      clear h hf az a0
      go_enter Tryd.func31, Tryd.ntmps31
      go_wp2_with fail
      refine LN.out.mono ?_
      rintro e w1 ⟨k, hk, kb, rfl, rfl⟩
      obtain ⟨k1, k2⟩ := HF.out k hk
      have kz : ((k : Int) == 0) = false := by simp; omega
      have kz' : ¬ (k : Int) = 0 := by omega
      have kb2 : (k : Int) ≤ 64000 := by omega
      clear hk LN HF
      by_cases hs : 8192 < s
      · clear k2
        go_wp2
        go_ret2
        exact fin.out
      · have k3 := k2 (by omega)
        have hs' : s ≤ 8192 := by omega
        clear k2
        have wk : IntKind.i64.wrap ((k : Int) + s) = (k : Int) + s := by rw [IntKind.wrap_i64]; omega
        go_wp2
        go_ret2
        exact fin.out
def addE (a b : Int) : Int := bothE a b (overE (a + b))
def addV (a b : Int) : Int := bothV a b (overV (a + b))
def mulE (a b : Int) : Int := bothE a b (overE (a * b))
def mulV (a b : Int) : Int := bothV a b (overV (a * b))
def subE (a b : Int) : Int := bothE a b (if a < b then 6 else 0)
def subV (a b : Int) : Int := bothV a b (if a < b then 0 else a - b)
theorem nadd_all (A B : Option Addr) (n m c d : Nat) (a b : List Int) (w : World) (h : Sl w w.heap.size A n c a) (h' : Sl w w.heap.size B m d b) (hn : n ≤ 3000) (hm : m ≤ 3000) :
    Calls Tryd.prog 23 #[.slice A n c, .slice B m d] w (NatRPost (addE (natV a) (natV b)) (addV (natV a) (natV b)) w) := by
  unfold addE addV
  by_cases hov : natV a < pw 8192 ∧ natV b < pw 8192
  · rw [(both_ok (v := 0) hov).1, (both_ok (e := 0) hov).2]
    exact nadd_any A B n m c d a b w h h' hn hm hov.1 hov.2
  · rw [(both_no (v := 0) hov).1, (both_no (e := 0) hov).2]
    exact nadd_over A B n m c d a b w h h' hn hm hov
theorem nmul_all (A B : Option Addr) (n m c d : Nat) (a b : List Int) (w : World) (h : Sl w w.heap.size A n c a) (h' : Sl w w.heap.size B m d b) (hn : n ≤ 3000) (hm : m ≤ 3000) :
    Calls Tryd.prog 27 #[.slice A n c, .slice B m d] w (NatRPost (mulE (natV a) (natV b)) (mulV (natV a) (natV b)) w) := by
  unfold mulE mulV
  by_cases hov : natV a < pw 8192 ∧ natV b < pw 8192
  · rw [(both_ok (v := 0) hov).1, (both_ok (e := 0) hov).2]
    exact nmul_any A B n m c d a b w h h' hn hm hov.1 hov.2
  · rw [(both_no (v := 0) hov).1, (both_no (e := 0) hov).2]
    exact nmul_over A B n m c d a b w h h' hn hm hov
set_option maxHeartbeats 2000000 in
theorem nsub_all (A B : Option Addr) (n m c d : Nat) (a b : List Int) (w : World) (h : Sl w w.heap.size A n c a) (h' : Sl w w.heap.size B m d b) (hn : n ≤ 3000) (hm : m ≤ 3000) :
    Calls Tryd.prog 25 #[.slice A n c, .slice B m d] w (NatRPost (subE (natV a) (natV b)) (subV (natV a) (natV b)) w) := by
  unfold subE subV
  by_cases hov : natV a < pw 8192 ∧ natV b < pw 8192
  · rw [(both_ok (v := 0) hov).1, (both_ok (e := 0) hov).2]
    by_cases hle : natV a < natV b
    · rw [if_pos hle, if_pos hle]
      have FT := Lib.hid (fits_any w.heap.size [(A, n, c, a), (B, m, d, b)] (w.alloc (.cells #[.slice A n c, .slice B m d] 26)) (lists_two h (by omega) h' (by omega)) (by simp))
      have e1 : decide (∀ x ∈ [(A, n, c, a), (B, m, d, b)], natV x.2.2.2 < pw 8192) = true := by simpa using hov
      rw [e1] at FT
      have b1 := Lib.hid (below_new w (.cells #[.slice A n c, .slice B m d] 26))
      have CM := Lib.hid (ncmp_any A B n m c d a b _ (h.alloc (.cells #[.slice A n c, .slice B m d] 26)) (h'.alloc (.cells #[.slice A n c, .slice B m d] 26)) (by omega) (by omega))
      rw [show cmpI (natV a) (natV b) = -1 by unfold cmpI; rw [if_pos hle]] at CM
      clear e1 h h' hov hle
      go_enter Tryd.func25, Tryd.ntmps25
      go_wp2_with fail
      refine FT.out.mono ?_
      rintro e w1 ⟨rfl, rfl⟩
      go_wp2_with fail
      refine CM.out.mono ?_
      rintro e w1 ⟨rfl, hb1⟩
      have fin := Lib.hid (NatRPost.nil (er := 6) (b1.out.trans (hb1.mono b1.out.size)))
      clear hb1 CM FT
      go_wp2
      go_ret2
      exact fin.out
    · rw [if_neg hle, if_neg hle]
      exact (nsub_any A B n m c d a b w h h' hn hm hov.1 (by omega)).mono fun _ _ z => z.r
  · rw [(both_no (v := 0) hov).1, (both_no (e := 0) hov).2]
    exact nsub_over A B n m c d a b w h h' hn hm hov
end Go.Proofs.YtmjidpkddiinaaaDoor

/-
  Package nat: Pow: walked.
-/
namespace Go.Proofs.YtmjidpkddiinaaaDoor
open Go.RowKit Go.Shelf

def bpow (b n : Int) : Int := ((b.toNat ^ n.toNat : Nat) : Int)
def bpowE (b n : Int) : Int := if b < 0 ∨ 1000000 < b ∨ n < 0 then 1 else if bpow b n < pw 8192 then 0 else 2
def bpowV (b n : Int) : Int := if b < 0 ∨ 1000000 < b ∨ n < 0 then 0 else if bpow b n < pw 8192 then bpow b n else 0
theorem bpow_arg {b n : Int} (h : b < 0 ∨ 1000000 < b ∨ n < 0) : bpowE b n = 1 ∧ bpowV b n = 0 := by unfold bpowE bpowV; rw [if_pos h, if_pos h]; exact ⟨rfl, rfl⟩
theorem bpow_ok {b n : Int} (h : ¬ (b < 0 ∨ 1000000 < b ∨ n < 0)) (k : bpow b n < pw 8192) : bpowE b n = 0 ∧ bpowV b n = bpow b n := by unfold bpowE bpowV; rw [if_neg h, if_neg h, if_pos k, if_pos k]; exact ⟨rfl, rfl⟩
theorem bpow_no {b n : Int} (h : ¬ (b < 0 ∨ 1000000 < b ∨ n < 0)) (k : pw 8192 ≤ bpow b n) : bpowE b n = 2 ∧ bpowV b n = 0 := by unfold bpowE bpowV; rw [if_neg h, if_neg h, if_neg (by omega), if_neg (by omega)]; exact ⟨rfl, rfl⟩
theorem bpow_zero (b : Int) : bpow b 0 = 1 := by unfold bpow; simp
theorem bpow_one {n : Int} : bpow 1 n = 1 := by unfold bpow; simp
theorem bpow_nil {n : Int} (h : 0 < n) : bpow 0 n = 0 := by
  unfold bpow
  rw [show (0 : Int).toNat = 0 from rfl, Nat.zero_pow (by omega)]; rfl
set_option exponentiation.threshold 10000 in
theorem bpow_big {b n : Int} (hb : 2 ≤ b) (hn : 8192 ≤ n) : pw 8192 ≤ bpow b n := by
  have h1 : 2 ^ 8192 ≤ b.toNat ^ n.toNat := Nat.le_trans (Nat.pow_le_pow_left (show 2 ≤ b.toNat by omega) 8192) (Nat.pow_le_pow_right (by omega) (by omega))
  show ((2 ^ ((8192 : Int)).toNat : Nat) : Int) ≤ _
  exact Int.ofNat_le.2 h1
/-- The power of the highest i bits of n. -/
def bpowAt (b n L i : Nat) : Int := ((b ^ (n / 2 ^ (L - i)) : Nat) : Int)
theorem bpowAt_step {b n L i : Nat} (h : i < L) (hb : 1 ≤ b) :
    bpowAt b n L (i + 1) = bpowAt b n L i * bpowAt b n L i * (if n / 2 ^ (L - 1 - i) % 2 = 0 then 1 else (b : Int)) ∧ bpowAt b n L i * bpowAt b n L i ≤ ((b ^ n : Nat) : Int) ∧ bpowAt b n L (i + 1) ≤ ((b ^ n : Nat) : Int) := by
  have e : n / 2 ^ (L - i) = n / 2 ^ (L - 1 - i) / 2 := by
    rw [show L - i = (L - 1 - i) + 1 by omega, Nat.pow_succ, Nat.div_div_eq_div_mul]
  have e2 : L - (i + 1) = L - 1 - i := by omega
  unfold bpowAt
  rw [e, e2]
  have le : n / 2 ^ (L - 1 - i) ≤ n := Nat.div_le_self _ _
  generalize n / 2 ^ (L - 1 - i) = m at *
  have sq : ((b ^ (m / 2) : Nat) : Int) * ((b ^ (m / 2) : Nat) : Int) = ((b ^ (m / 2 + m / 2) : Nat) : Int) := by rw [Nat.pow_add, Int.natCast_mul]
  refine ⟨?_, ?_, Int.ofNat_le.2 (Nat.pow_le_pow_right hb le)⟩
  · rw [sq]
    by_cases c : m % 2 = 0
    · rw [if_pos c, Int.mul_one]; congr 2; omega
    · rw [if_neg c, ← Int.natCast_mul, ← Nat.pow_succ]; congr 2; omega
  · rw [sq]; exact Int.ofNat_le.2 (Nat.pow_le_pow_right hb (by omega))
theorem bpowAt_zero {b n L : Nat} (h : n < 2 ^ L) : bpowAt b n L 0 = 1 := by unfold bpowAt; rw [Nat.sub_zero, Nat.div_eq_of_lt h]; rfl
theorem bpowAt_end (b n L : Nat) : bpowAt b n L L = ((b ^ n : Nat) : Int) := by unfold bpowAt; rw [Nat.sub_self, Nat.pow_zero, Nat.div_one]
theorem and_one64 (a : Nat) (ha : a < 9223372036854775808) : bits .and .i64 (a : Int) 1 = ((a % 2 : Nat) : Int) := by
  show IntKind.i64.wrap ((BitVec.ofInt 64 (a : Int) &&& BitVec.ofInt 64 1).toNat : Int) = _
  rw [BitVec.toNat_and, ofInt_u64 a (by omega), show (BitVec.ofInt 64 1).toNat = 1 from rfl, Nat.and_one_is_mod, IntKind.wrap_i64]
  omega
set_option maxRecDepth 100000 in
set_option maxHeartbeats 4000000 in
theorem npow_any (b n : Int) (hb0 : -9223372036854775808 ≤ b) (hb1 : b ≤ 9223372036854775807) (hn0 : -9223372036854775808 ≤ n) (hn1 : n ≤ 9223372036854775807) (w : World) :
    Calls Tryd.prog 35 #[.int .i64 b, .int .i64 n] w (NatRPost (bpowE b n) (bpowV b n) w) := by
  by_cases arg : b < 0 ∨ 1000000 < b ∨ n < 0
  · rw [(bpow_arg arg).1, (bpow_arg arg).2]
    have fin := Lib.hid (NatRPost.nil (er := 1) (Below.refl w.heap.size w))
    by_cases c1 : b < 0
    · go_enter Tryd.func35, Tryd.ntmps35
      go_wp2
      go_ret2
      exact fin.out
    · by_cases c2 : 1000000 < b
      · go_enter Tryd.func35, Tryd.ntmps35
        go_wp2
        go_ret2
        exact fin.out
      · have c3 : n < 0 := by omega
        clear arg
        go_enter Tryd.func35, Tryd.ntmps35
        go_wp2
        go_ret2
        exact fin.out
  · have A1 : ¬ b < 0 := by omega
    have A2 : ¬ 1000000 < b := by omega
    have A3 : ¬ n < 0 := by omega
    have O1 := Lib.hid (nof_any 1 ⟨by decide, by decide⟩ w)
    by_cases c1 : n = 0 ∨ b = 1
    · have e1 : bpow b n = 1 := by
        rcases c1 with rfl | rfl
        · exact bpow_zero b
        · exact bpow_one
      have k := bpow_ok arg (by rw [e1, ← show pw 0 = 1 from rfl]; have := pw_mono (a := 1) (b := 8192) (by decide) (by decide); rw [show pw 1 = 2 from rfl] at this; rw [show pw 0 = 1 from rfl]; omega)
      rw [k.1, k.2, e1]
      clear k e1 arg
      by_cases n0 : n = 0
      · subst n0
        go_enter Tryd.func35, Tryd.ntmps35
        go_wp2_with fail
        refine O1.out.mono ?_
        rintro e w1 ⟨A2, n2, c2, l2, rfl, h1, h2, h3, h4, h5⟩
        have fin := Lib.hid (NatRPost.mk (er := 0) h1 h2 h3 h4 h5)
        clear h1 h2 h3 h4 h5
        go_wp2
        go_ret2
        exact fin.out
      · obtain rfl : b = 1 := by omega
        have nz : (n == 0) = false := by simpa using n0
        go_enter Tryd.func35, Tryd.ntmps35
        go_wp2_with fail
        refine O1.out.mono ?_
        rintro e w1 ⟨A2, n2, c2, l2, rfl, h1, h2, h3, h4, h5⟩
        have fin := Lib.hid (NatRPost.mk (er := 0) h1 h2 h3 h4 h5)
        clear h1 h2 h3 h4 h5
        go_wp2
        go_ret2
        exact fin.out
    · have n0 : ¬ n = 0 := fun z => c1 (.inl z)
      have b1 : ¬ b = 1 := fun z => c1 (.inr z)
      have nz : (n == 0) = false := by simpa using n0
      have bz : (b == 1) = false := by simpa using b1
      by_cases b0 : b = 0
      · subst b0
        have k := bpow_ok arg (by rw [bpow_nil (by omega)]; exact pw_pos _)
        rw [k.1, k.2, bpow_nil (by omega)]
        have fin := Lib.hid (NatRPost.nil (er := 0) (Below.refl w.heap.size w))
        clear k arg c1
        go_enter Tryd.func35, Tryd.ntmps35
        go_wp2
        go_ret2
        exact fin.out
      · have bz0 : (b == 0) = false := by simpa using b0
        by_cases nb : 8192 ≤ n
        · have k := bpow_no arg (bpow_big (by omega) nb)
          rw [k.1, k.2]
          have fin := Lib.hid (NatRPost.nil (er := 2) (Below.refl w.heap.size w))
          clear k arg c1
          go_enter Tryd.func35, Tryd.ntmps35
          go_wp2
          go_ret2
          exact fin.out
        · have nb' : ¬ 8192 ≤ n := nb
          obtain ⟨E0, V0, hE⟩ : ∃ E V, bpowE b n = E ∧ bpowV b n = V := ⟨_, _, rfl, rfl⟩
          rw [hE.1, hE.2]
          obtain ⟨L, hL⟩ : ∃ L, Lib.bitLen n.toNat = L := ⟨_, rfl⟩
          have BL : Hid (∀ W, Calls Tryd.prog 60 #[.int .u64 n] W fun e w' => e = .returned (.int .i64 (L : Int)) ∧ W = w') := fun W => (Tryd.bits_Len n W (by omega) (by omega)).mono (by rintro e w' ⟨rfl, rfl⟩; exact ⟨by rw [hL], rfl⟩)
          obtain ⟨s1, _, s3⟩ := bitLen_bd n.toNat (by omega)
          rw [hL] at s1 s3
          have OK := Lib.hid (fun k => bpow_ok (b := b) (n := n) arg k)
          have NO := Lib.hid (fun k => bpow_no (b := b) (n := n) arg k)
          have hE := Lib.hid hE
          have st0 := Lib.hid (bpowAt_zero (b := b.toNat) s1)
          have fin := Lib.hid (bpowAt_end b.toNat n.toNat L)
          have stp := Lib.hid (fun i hi => @bpowAt_step b.toNat n.toNat L i hi (by omega))
          have O2 := Lib.hid (fun W => nof_any b ⟨by omega, by omega⟩ W)
          have OO := Lib.hid (fun W => nof_any 1 ⟨by decide, by decide⟩ W)
          clear c1 arg O1 hL s1 nb
          go_enter Tryd.func35, Tryd.ntmps35
          go_wp2_with fail
          refine (OO.out _).mono ?_
          rintro e w1 ⟨A1', n1, c1, l1, rfl, h1, h2, h3, h4, h5⟩
          have OB := Lib.hid (O2.out w1)
          have P1 := Lib.hid (show Sl w1 w1.heap.size A1' n1 c1 l1 ∧ Norm l1 ∧ natV l1 = 1 ∧ Fresh w.heap.size A1' ∧ Below w.heap.size w w1 from ⟨h1, h2, h3, h4, h5⟩)
          clear h1 h2 h3 h4 h5 O2 OO
          go_wp2_with fail
          refine OB.out.mono ?_
          rintro e w2 ⟨A2', n2, c2, l2, rfl, h1, h2, h3, h4, h5⟩
          have P2 := Lib.hid (show Sl w2 w2.heap.size A1' n1 c1 l1 ∧ Norm l1 ∧ natV l1 = 1 ∧ Fresh w.heap.size A1' ∧ Below w.heap.size w w2 from ⟨P1.out.1.on h5, P1.out.2.1, P1.out.2.2.1, P1.out.2.2.2.1, P1.out.2.2.2.2.trans (h5.mono P1.out.2.2.2.2.size)⟩)
          have PB := Lib.hid (show Sl w2 w2.heap.size A2' n2 c2 l2 ∧ natV l2 = b from ⟨h1, h3⟩)
          have n2b := norm_len (k := 2) h1.lim h2 (by rw [h3, show pw (32 * ((2 : Nat) : Int)) = 18446744073709551616 from rfl]; omega)
          rw [h1.len] at n2b
          clear h1 h2 h3 h4 h5 OB P1
          go_wp2_with fail
          refine (BL.out _).mono ?_
          rintro e w3 ⟨rfl, rfl⟩
          go_wp2_with fail
          have nL := Lib.hid (show bpow b n = ((b.toNat ^ n.toNat : Nat) : Int) from rfl)
          have p1 : (1 : Int) < pw 8192 := by have := pw_mono (a := 1) (b := 8192) (by decide) (by decide); rw [show pw 1 = 2 from rfl] at this; omega
          have n1b := norm_len (k := 1) P2.out.1.lim P2.out.2.1 (by rw [P2.out.2.2.1]; decide)
          rw [P2.out.1.len] at n1b
          have Lb : (L : Int) ≤ 64 := by omega
          have p1 := Lib.hid p1
          go_loopw [6, 8, 38] (fun pv ev ii wx => ∃ (i : Nat) (A : Option Addr) (m c : Nat) (l : List Int), ii = .int .i64 (i : Int) ∧ pv = .slice A m c ∧ ev = .int .i64 0 ∧ i ≤ L ∧ m ≤ 256 ∧ Hid (Sl wx wx.heap.size A m c l ∧ Norm l ∧ natV l = bpowAt b.toNat n.toNat L i ∧ natV l < pw 8192 ∧ Fresh w.heap.size A ∧ Below w.heap.size w wx ∧ Sl wx wx.heap.size A2' n2 c2 l2)) (fun _ _ ii _ => L - (intOf ii).toNat)
          case atStart => exact ⟨0, A1', n1, c1, l1, rfl, rfl, rfl, by omega, by omega, P2.out.1, P2.out.2.1, by rw [P2.out.2.2.1, st0.out], by rw [P2.out.2.2.1]; exact p1.out, P2.out.2.2.2.1, P2.out.2.2.2.2, PB.out.1⟩
          case round =>
            obtain ⟨i, A, m, c, l, rfl, rfl, rfl, hi, mb, HI⟩ := hrel
            clear P2 st0 p1
            by_cases hlt : i < L
            · have ilt : (i : Int) < (L : Int) := by omega
              have i0 : (0 : Int) ≤ (i : Int) := by omega
              have ST := Lib.hid (stp.out i hlt)
              have M1 := Lib.hid (nmul_any A A m m c c l l _ HI.out.1 HI.out.1 (by omega) (by omega) HI.out.2.2.2.1 HI.out.2.2.2.1)
              obtain ⟨K, hK⟩ : ∃ K, L - 1 - i = K := ⟨_, rfl⟩
              have eK : (L : Int) - 1 - (i : Int) = (K : Int) := by omega
              have wK : IntKind.i64.wrap ((L : Int) - 1 - (i : Int)) = (K : Int) := by rw [eK, IntKind.wrap_i64]; omega
              have wK1 : IntKind.i64.wrap ((L : Int) - 1) = (L : Int) - 1 := by rw [IntKind.wrap_i64]; omega
              have K0 : (0 : Int) ≤ (K : Int) := by omega
              have Kb : (K : Int) ≤ 64 := by omega
              by_cases ov : natV l * natV l < pw 8192
              · rw [(over_ok ov).1, (over_ok ov).2] at M1
                go_wp2_with fail
                refine M1.out.mono ?_
                rintro e w4 ⟨A4, n4, c4, l4, rfl, h1, h2, h3, h4, h5⟩
                have n4b := norm_len (k := 256) h1.lim h2 (by rw [h3]; exact ov)
                rw [h1.len] at n4b
                have B4 := Lib.hid (HI.out.2.2.2.2.2.1.trans (h5.mono HI.out.2.2.2.2.2.1.size))
                have S4 := Lib.hid (show Sl w4 w4.heap.size A4 n4 c4 l4 ∧ Norm l4 ∧ natV l4 = natV l * natV l ∧ Fresh w.heap.size A4 ∧ Sl w4 w4.heap.size A2' n2 c2 l2 from ⟨h1, h2, h3, h4.mono HI.out.2.2.2.2.2.1.size, HI.out.2.2.2.2.2.2.on h5⟩)
                clear h1 h2 h3 h4 h5 M1
                go_wp2_with fail
                refine (BL.out _).mono ?_
                rintro e w5 ⟨rfl, rfl⟩
                have eV : (n / 2 ^ K) = ((n.toNat / 2 ^ K : Nat) : Int) := by
                  rw [Int.natCast_ediv, Int.toNat_of_nonneg (by omega), Int.natCast_pow]; rfl
                have bt : bits .and .i64 (n / 2 ^ K) 1 = ((n.toNat / 2 ^ K % 2 : Nat) : Int) := by
                  rw [eV]; exact and_one64 _ (Nat.lt_of_le_of_lt (Nat.div_le_self _ _) (by omega))
                have STo := ST.out
                rw [hK] at STo
                by_cases odd : n.toNat / 2 ^ K % 2 = 0
                · have t1 : (bits .and .i64 (n / 2 ^ K) 1 == 0) = true := by rw [bt, odd]; rfl
                  rw [if_pos odd, Int.mul_one] at STo
                  have nx := Lib.hid STo.1
                  clear eV bt STo ST odd stp
                  go_wp2
                  refine ⟨⟨i + 1, A4, n4, c4, l4, by go_num, rfl, rfl, by omega, n4b, S4.out.1, S4.out.2.1, by rw [S4.out.2.2.1, HI.out.2.2.1]; exact nx.out.symm, by rw [S4.out.2.2.1]; exact ov, S4.out.2.2.2.1, B4.out, S4.out.2.2.2.2⟩, ?_⟩
                  simp [intOf]; omega
                · have t1 : (bits .and .i64 (n / 2 ^ K) 1 == 0) = false := by
                    rw [bt, show n.toNat / 2 ^ K % 2 = 1 by omega]; rfl
                  rw [if_neg odd, Int.toNat_of_nonneg (by omega)] at STo
                  have nx := Lib.hid STo.1
                  have nle := Lib.hid STo.2.2
                  have M2 := Lib.hid (nmul_any A4 A2' n4 n2 c4 c2 l4 l2 _ S4.out.1 S4.out.2.2.2.2 (by omega) (by omega) (by rw [S4.out.2.2.1]; exact ov) (by rw [PB.out.2]; have := pw_mono (a := 20) (b := 8192) (by decide) (by decide); rw [show pw 20 = 1048576 from rfl] at this; omega))
                  have ev : natV l4 * natV l2 = bpowAt b.toNat n.toNat L (i + 1) := by rw [S4.out.2.2.1, PB.out.2, HI.out.2.2.1]; exact nx.out.symm
                  rw [ev] at M2
                  clear eV bt STo ST odd stp
                  by_cases ov2 : bpowAt b.toNat n.toNat L (i + 1) < pw 8192
                  · rw [(over_ok ov2).1, (over_ok ov2).2] at M2
                    have ov2 := Lib.hid ov2
                    clear ev
                    go_wp2_with fail
                    refine M2.out.mono ?_
                    rintro e w6 ⟨A6, n6, c6, l6, rfl, h1, h2, h3, h4, h5⟩
                    have n6b := norm_len (k := 256) h1.lim h2 (by rw [h3]; exact ov2.out)
                    rw [h1.len] at n6b
                    have S6 := Lib.hid (show Sl w6 w6.heap.size A6 n6 c6 l6 ∧ Norm l6 ∧ natV l6 = bpowAt b.toNat n.toNat L (i + 1) ∧ natV l6 < pw 8192 ∧ Fresh w.heap.size A6 ∧ Below w.heap.size w w6 ∧ Sl w6 w6.heap.size A2' n2 c2 l2 from ⟨h1, h2, h3, by rw [h3]; exact ov2.out, h4.mono B4.out.size, B4.out.trans (h5.mono B4.out.size), S4.out.2.2.2.2.on h5⟩)
                    clear h1 h2 h3 h4 h5 M2
                    go_wp2
                    refine ⟨⟨i + 1, A6, n6, c6, l6, by go_num, rfl, rfl, by omega, n6b, S6.out⟩, ?_⟩
                    simp [intOf]; omega
                  · have big := NO.out (by rw [nL.out]; have := nle.out; omega)
                    rw [(over_no (by omega)).1, (over_no (by omega)).2] at M2
                    have e1 : E0 = 2 ∧ V0 = 0 := ⟨by rw [← hE.out.1, big.1], by rw [← hE.out.2, big.2]⟩
                    clear ev big
                    go_wp2_with fail
                    refine M2.out.mono ?_
                    rintro e w6 ⟨A6, n6, c6, l6, rfl, h1, h2, h3, h4, h5⟩
                    have fin2 : Hid (NatRPost E0 V0 w (.returned (.tuple #[.slice none 0 0, .int .i64 2])) w6) := by
                      unfold Hid; rw [e1.1, e1.2]
                      exact NatRPost.nil (B4.out.trans (h5.mono B4.out.size))
                    clear h1 h2 h3 h4 h5 M2
                    go_wp2
                    go_ret2
                    exact fin2.out
              · have big := NO.out (by rw [nL.out]; have := ST.out.2.1; rw [← HI.out.2.2.1] at this; omega)
                rw [(over_no (by omega)).1, (over_no (by omega)).2] at M1
                have e1 : E0 = 2 ∧ V0 = 0 := ⟨by rw [← hE.out.1, big.1], by rw [← hE.out.2, big.2]⟩
                clear big
                go_wp2_with fail
                refine M1.out.mono ?_
                rintro e w6 ⟨A6, n6, c6, l6, rfl, h1, h2, h3, h4, h5⟩
                have fin2 : Hid (NatRPost E0 V0 w (.returned (.tuple #[.slice none 0 0, .int .i64 2])) w6) := by
                  unfold Hid; rw [e1.1, e1.2]
                  exact NatRPost.nil (HI.out.2.2.2.2.2.1.trans (h5.mono HI.out.2.2.2.2.2.1.size))
                clear h1 h2 h3 h4 h5 M1
                go_wp2
                go_ret2
                exact fin2.out
            · obtain rfl : i = L := by omega
              have hge : ¬ (i : Int) < (i : Int) := by omega
              have v := HI.out.2.2.1
              rw [fin.out] at v
              have k := OK.out (by rw [nL.out, ← v]; exact HI.out.2.2.2.1)
              have fin2 : Hid (NatRPost E0 V0 w (.returned (.tuple #[.slice A m c, .int .i64 0])) wr) := by
                unfold Hid; rw [← hE.out.1, ← hE.out.2, k.1, k.2, nL.out]
                exact NatRPost.mk HI.out.1 HI.out.2.1 v HI.out.2.2.2.2.1 HI.out.2.2.2.2.2.1
              clear k v stp
              go_wp2
              go_ret2
              exact fin2.out
end Go.Proofs.YtmjidpkddiinaaaDoor

