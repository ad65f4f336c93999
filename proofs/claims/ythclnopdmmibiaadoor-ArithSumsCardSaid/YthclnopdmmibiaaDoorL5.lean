/-
  The document's naturals: Times.
-/
import Derived.Test.YthclnopdmmibiaaDoorL4
namespace Go.Proofs.YthclnopdmmibiaaDoor
open Go.RowKit Go.Shelf

/-- 'make' of n limbs. -/
theorem wpList_mk {w : World} {ops : Array Oper} {rest : List Oper} {o : Oper} {a : Act} {Q : Exit → Act → World → Prop} (hgd : o.guard = none) (s x : Operand) (ho : o.op = Op.makeSlice 34 s x)
    (base : Nat) (L C : Int) (n : Nat) (hs : a.eval s = .int .i64 L) (hx : a.eval x = .int .i64 C) (hL : L = (n : Int)) (hC : C = (n : Int)) (hn : n ≤ 2000000000) (hbase : base ≤ w.heap.size)
    (h : ∀ w', w'.ownsRow base 63 1 (.slice (some ⟨w.heap.size, 0, none⟩) n n) n ((List.replicate n (0 : Int)).map (Value.int .u32)) → Below base w w' → w.heap.size < w'.heap.size → wpList Tryd.prog ops Q rest (a.put o.dst (.slice (some ⟨w.heap.size, 0, none⟩) n n)) w') :
    wpList Tryd.prog ops Q (o :: rest) a w := by
  obtain ⟨i0, hi, hz0, hz1, hz2⟩ := info_parts Tryd.info71
  refine wpList_make_full w hgd s x 34 ho base 63 i0 (.int .u32 0) 1 Tryd.underlying34 hi hz0 hz1 .i64 .i64 L C n hs hx hL hC (by rw [hz2]; omega) (by unfold maxLen; omega) hbase fun w' h1 h2 => ?_
  refine h w' ?_ ((Below.refl _ _).grown h2 hbase (fun k hk => by cases hk)) (h1.lt _ rfl).2
  have e : (madeCells (Value.int .u32 0).cells (n * 1)).toList = (List.replicate n (0 : Int)).map (Value.int .u32) := by
    rw [show (Value.int .u32 0).cells = #[Value.int .u32 0] from rfl, toList_madeCells_one, List.map_replicate, Nat.mul_one]
  rw [← e]; exact h1

/-- i rows of a product. -/
structure TimesAt (a b : List Int) (N i : Nat) (o : List Int) : Prop where
  len : o.length = N
  lim : ∀ x ∈ o, Limb x
  v : natV o = natV (a.take i) * natV b
  z : ∀ t : Nat, i + b.length ≤ t → digV o t = 0
/-- .. and k limbs of the next row. -/
structure TimesIn (a b : List Int) (N i k : Nat) (o : List Int) (cy : Int) : Prop where
  len : o.length = N
  lim : ∀ x ∈ o, Limb x
  v : natV o + cy * pw (32 * ((i + k : Nat) : Int)) = natV (a.take i) * natV b + digV a i * (pw (32 * (i : Int)) * natV (b.take k))
  z : ∀ t : Nat, i + b.length ≤ t → digV o t = 0
theorem digV_set_ne {o : List Int} {i t : Nat} {x : Int} (h : i ≠ t) : digV (o.set i x) t = digV o t := by
  unfold digV; rw [List.getElem?_set_ne h]
theorem times_in {a b o : List Int} {N i : Nat} (h : TimesAt a b N i o) : TimesIn a b N i 0 o 0 :=
  ⟨h.len, h.lim, by rw [h.v, List.take_zero, show natV [] = 0 from rfl]; simp, h.z⟩
theorem times_step {a b o : List Int} {N i k : Nat} {cy s : Int} (h : TimesIn a b N i k o cy) (hk : k < b.length) (hN : i + k < N) (hs : s = digV a i * digV b k + digV o (i + k) + cy) :
    TimesIn a b N i (k + 1) (o.set (i + k) (s % 4294967296)) (s / 4294967296) := by
  obtain ⟨h1, h2, h3, h4⟩ := h
  refine ⟨by rw [List.length_set, h1], limbs_set h2 _ (limb_mod s), ?_, fun t ht => by rw [digV_set_ne (by omega)]; exact h4 t ht⟩
  rw [natV_set _ (by omega), ← digV_lt (by omega), natV_take_dig, show i + (k + 1) = i + k + 1 from rfl, pw32]
  have ep : pw (32 * ((i + k : Nat) : Int)) = pw (32 * (i : Int)) * pw (32 * (k : Int)) := by rw [← pw_add _ _ (by omega) (by omega)]; congr 1; omega
  have e : s = 4294967296 * (s / 4294967296) + s % 4294967296 := by omega
  generalize s / 4294967296 = q at *
  generalize s % 4294967296 = r at *
  generalize digV o (i + k) = D at *
  generalize hp : pw (32 * ((i + k : Nat) : Int)) = p at *
  have f : p * (digV a i * digV b k + D + cy) = p * (4294967296 * q + r) := by rw [← hs, ← e]
  have g : digV a i * (pw (32 * (i : Int)) * (natV (b.take k) + pw (32 * (k : Int)) * digV b k)) = digV a i * (pw (32 * (i : Int)) * natV (b.take k)) + p * (digV a i * digV b k) := by
    rw [Int.mul_add, Int.mul_add, ← Int.mul_assoc (pw (32 * (i : Int))) (pw (32 * (k : Int))), ← ep, Int.mul_left_comm (digV a i) p]
  rw [g]
  rw [Int.mul_add, Int.mul_add, Int.mul_add, Int.mul_left_comm p 4294967296] at f
  rw [Int.mul_comm cy p] at h3
  rw [Int.mul_sub, Int.mul_comm q, Int.mul_assoc 4294967296 p q]
  omega
theorem times_out {a b o : List Int} {N i : Nat} {cy : Int} (h : TimesIn a b N i b.length o cy) (hc : Limb cy) (hN : i + b.length < N) : TimesAt a b N (i + 1) (o.set (i + b.length) cy) := by
  obtain ⟨h1, h2, h3, h4⟩ := h
  refine ⟨by rw [List.length_set, h1], limbs_set h2 _ hc, ?_, fun t ht => by rw [digV_set_ne (by omega)]; exact h4 t (by omega)⟩
  rw [natV_set _ (by omega), ← digV_lt (by omega), h4 _ (Nat.le_refl _), natV_take_dig, Int.add_mul]
  rw [natV_take_all (Nat.le_refl _)] at h3
  rw [Int.mul_comm cy] at h3
  rw [Int.mul_sub, Int.mul_zero, Int.sub_zero, h3, Int.mul_left_comm, Int.mul_assoc]
theorem mul_limb {x y : Int} (hx : Limb x) (hy : Limb y) : 0 ≤ x * y ∧ x * y ≤ 18446744065119617025 := by
  unfold Limb at *
  exact ⟨Int.mul_nonneg hx.1 hy.1, Int.le_trans (Int.mul_le_mul (show x ≤ 4294967295 by omega) (show y ≤ 4294967295 by omega) hy.1 (by omega)) (by decide)⟩
theorem row_cell {w : World} {base g N : Nat} {o : List Int} (h : w.ownsRow base 63 1 (.slice (some ⟨g, 0, none⟩) N N) N (o.map (Value.int .u32))) (j : Nat) (hj : j < N) : w.cell? ⟨g, j, none⟩ = some (.int .u32 (digV o j)) := by
  have hl : o.length = N := by have := h.1; simpa using this
  rw [h.cellAt j (by omega), digV_lt (by omega)]
  simp [show j < o.length by omega]
theorem row_set {w : World} {base g N : Nat} {o : List Int} (h : w.ownsRow base 63 1 (.slice (some ⟨g, 0, none⟩) N N) N (o.map (Value.int .u32))) (j : Nat) (x : Int) :
    (w.setCell ⟨g, j, none⟩ (.int .u32 x)).ownsRow base 63 1 (.slice (some ⟨g, 0, none⟩) N N) N ((o.set j x).map (Value.int .u32)) := by
  have := (h.stored j (.int .u32 x)).1
  rw [List.map_set]; exact this
theorem row_drewN {w : World} {base n : Nat} {v : Value} {xs : List Value} (h : w.ownsRow base 63 1 v n xs) (k : Nat) : (w.drewN k).ownsRow base 63 1 v n xs := h

set_option maxHeartbeats 4000000 in
theorem rtimes_any (A B : Option Addr) (n m c d : Nat) (a b : List Int) (w : World) (h : Sl w w.heap.size A n c a) (h' : Sl w w.heap.size B m d b) (hn : n ≤ 100000000) (hm : m ≤ 100000000) :
    Calls Tryd.prog 29 #[.slice A n c, .slice B m d] w (NatPost (natV a * natV b) w) := by
  have HA := Lib.hid h; have HB := Lib.hid h'
  have la := Lib.hid h.len; have lb := Lib.hid h'.len
  have da := Lib.hid (digV_limb h.lim); have db := Lib.hid (digV_limb h'.lim)
  have s0 : Hid (TimesAt a b (n + m + 1) 0 (List.replicate (n + m + 1) 0)) := ⟨by simp, limbs_rep _, by rw [natV_rep]; simp [natV], fun t _ => by
    rcases Nat.lt_or_ge t (List.replicate (n + m + 1) (0 : Int)).length with c1 | c1
    · rw [digV_lt c1]; simp
    · exact digV_ge c1⟩
  obtain ⟨N, hN⟩ : ∃ N, n + m + 1 = N := ⟨_, rfl⟩
  have eN : (n : Int) + (m : Int) + 1 = (N : Int) := by omega
  have EN := Lib.hid eN
  rw [hN] at s0
  have bN : N ≤ 200000001 := by omega
  have hN' : n + m < N := by omega
  have HN := Lib.hid hN
  clear h h' hN eN
  go_enter Tryd.func29, Tryd.ntmps29
  go_wp2_with (at_make; go_loud (refine wpList_mk rfl _ _ rfl w.heap.size _ _ N rfl rfl EN.out EN.out (by omega) (Nat.le_refl _) ?_); intro w1 hown1 hb1 hz1)
  go_loopw [6] (fun i wr => ∃ t : Nat, ∃ o : List Int, i = .int .i64 (t : Int) ∧ t ≤ n ∧ wr.ownsRow w.heap.size 63 1 (.slice (some ⟨w.heap.size, 0, none⟩) N N) N (o.map (Value.int .u32)) ∧ Below w.heap.size w wr ∧ w.heap.size < wr.heap.size ∧ TimesAt a b N t o) (fun i _ => n - (intOf i).toNat)
  case atStart => exact ⟨0, _, rfl, by omega, hown1, hb1, hz1, s0.out⟩
  case round =>
    obtain ⟨t, o, rfl, ht, hown, hB, hz, hP⟩ := hrel
    have t0 : (t : Int) ≤ 100000000 := by omega
    have bn : (n : Int) ≤ 100000000 := by omega
    have bm : (m : Int) ≤ 100000000 := by omega
    clear hown1 hb1 hz1 s0
    by_cases hlt : t < n
    · have hlt' : (t : Int) < (n : Int) := by omega
      have hP := Lib.hid hP
      have HO := Lib.hid hown
      clear hown
      go_upto_block 2 with fail
      go_cut [7] (fun v wx => ∃ cy : Int, ∃ o : List Int, v = .int .u64 cy ∧ 0 ≤ cy ∧ cy < 4294967296 ∧ wx.ownsRow w.heap.size 63 1 (.slice (some ⟨w.heap.size, 0, none⟩) N N) N (o.map (Value.int .u32)) ∧ Below w.heap.size w wx ∧ w.heap.size < wx.heap.size ∧ TimesIn a b N t m o cy)
      case first =>
        go_wp2_with fail
        go_loopw [7, 8] (fun v kk wx => ∃ k : Nat, ∃ cy : Int, ∃ o : List Int, kk = .int .i64 (k : Int) ∧ v = .int .u64 cy ∧ k ≤ m ∧ 0 ≤ cy ∧ cy < 4294967296 ∧ wx.ownsRow w.heap.size 63 1 (.slice (some ⟨w.heap.size, 0, none⟩) N N) N (o.map (Value.int .u32)) ∧ Below w.heap.size w wx ∧ w.heap.size < wx.heap.size ∧ TimesIn a b N t k o cy) (fun _ kk _ => m - (intOf kk).toNat)
        case atStart => exact ⟨0, 0, o, rfl, rfl, by omega, by decide, by decide, HO.out, hB, hz, times_in hP.out⟩
        case round =>
          obtain ⟨k, cy, o, rfl, rfl, hk, c0, c1, hown, hB, hz, hI⟩ := hrel
          clear HO hP
          by_cases hkm : k < m
          · have HAw := (HA.out.below hB)
            have HBw := (HB.out.below hB)
            rcases HAw.rd with hz1 | ⟨b1, o1, rfl, hb1, hc1⟩
            · omega
            rcases HBw.rd with hz2 | ⟨b2, o2, rfl, hb2, hc2⟩
            · omega
            obtain ⟨j, hj⟩ : ∃ j, t + k = j := ⟨_, rfl⟩
            have cell1 := hc1 t (by rw [la.out]; exact hlt)
            have cell2 := hc2 k (by rw [lb.out]; exact hkm)
            have cell3 := row_cell hown j (by omega)
            have fr : World.frozen? _ ⟨w.heap.size, j, none⟩ = false := hown.frozenAt j
            rw [← digV_lt] at cell1 cell2
            obtain ⟨x0, x1⟩ := da.out t
            obtain ⟨y0, y1⟩ := db.out k
            obtain ⟨p0, p1⟩ := mul_limb (da.out t) (db.out k)
            obtain ⟨z0, z1⟩ := digV_limb hI.lim j
            have stp := Lib.hid (times_step (s := digV a t * digV b k + digV o j + cy) hI (by rw [lb.out]; exact hkm) (by omega) (by rw [hj]))
            rw [hj] at stp
            have ej : (t : Int) + (k : Int) = (j : Int) := by omega
            have jN : (j : Int) < (N : Int) := by omega
            have j0 : (0 : Int) ≤ (j : Int) := by omega
            have hkm' : (k : Int) < (m : Int) := by omega
            have k0 : (0 : Int) ≤ (k : Int) := by omega
            have tt0 : (0 : Int) ≤ (t : Int) := by omega
            have Hown := Lib.hid hown
            generalize hp : digV a t * digV b k = p at *
            generalize digV a t = x at *
            generalize digV b k = y at *
            generalize digV o j = z at *
            have wj : IntKind.i64.wrap ((t : Int) + (k : Int)) = (j : Int) := by rw [ej, IntKind.wrap_i64]; omega
            have w1 : IntKind.u64.wrap p = p := by rw [IntKind.wrap_u64]; omega
            have w2 : IntKind.u64.wrap (p + z) = p + z := by rw [IntKind.wrap_u64]; omega
            have w3 : IntKind.u64.wrap (p + z + cy) = p + z + cy := by rw [IntKind.wrap_u64]; omega
            have q0 : 0 ≤ p + z + cy := by omega
            clear hc1 hc2 HAw HBw HA HB da db la lb hI hown hj
            go_wp2
            go_quiet (fail)
            have Hset := Lib.hid (fun v => row_set (row_drewN Hown.out nq) j v)
            go_wp2
            go_roundw
            case rel => exact ⟨k + 1, _, _, by go_num, rfl, by omega, by omega, by omega, Hset.out _, (below_drewN hB _).setCell (Nat.le_refl _) _, by simpa [World.setCell] using hz, stp.out⟩
            case measure => simp [intOf]; omega
          · have ek : k = m := by omega
            subst ek
            have hI := Lib.hid hI
            have hown := Lib.hid hown
            clear HA HB da db la lb
            go_wp2
            go_meet
            exact ⟨cy, o, rfl, c0, c1, hown.out, hB, hz, hI.out⟩
      case rest =>
        obtain ⟨cy, o, rfl, c0, c1, hown, hB, hz, hI⟩ := hcut
        obtain ⟨j, hj⟩ : ∃ j, t + m = j := ⟨_, rfl⟩
        have ej : (t : Int) + (m : Int) = (j : Int) := by omega
        have jN : (j : Int) < (N : Int) := by omega
        have cell := row_cell hown j (by omega)
        have fr : World.frozen? _ ⟨w.heap.size, j, none⟩ = false := hown.frozenAt j
        have fin := Lib.hid (times_out (by rw [lb.out]; exact hI) (show Limb cy from ⟨c0, c1⟩) (by rw [lb.out]; omega))
        rw [lb.out, hj] at fin
        have Hown := Lib.hid (row_set hown j cy)
        generalize digV o j = z at *
        clear HA HB da db la lb hI hown hj HO hP
        go_wp2
        go_roundw
        case rel => exact ⟨t + 1, _, by go_num, by omega, Hown.out, hB.setCell (Nat.le_refl _) _, by simpa [World.setCell] using hz, fin.out⟩
        case measure => simp [intOf]; omega
    · have fin := hP.v
      rw [natV_take_all (by rw [la.out]; omega)] at fin
      have HT := Lib.hid (trim_own hown hP.lim (by omega) hB fin)
      have hge : (n : Int) ≤ (t : Int) := by omega
      clear hown HA HB da db la lb hP fin
      go_wp2_with fail
      refine HT.out.mono ?_
      intro e w2 hp
      obtain ⟨A2, n2, c2, l2, rfl, hs2, hn2, hv2, fr2, hb2⟩ := hp
      have hp := Lib.hid (show NatPost (natV a * natV b) w (.returned (.slice A2 n2 c2)) w2 from ⟨A2, n2, c2, l2, rfl, hs2, hn2, hv2, fr2, hb2⟩)
      clear hs2 hn2 hv2 hb2
      go_wp2
      go_ret
      exact hp.out
end Go.Proofs.YthclnopdmmibiaaDoor
