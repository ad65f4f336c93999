/-
  The statement WideSums, walked.
-/
import Derived.Test.YtogldkjhcmlneaaL6
import Derived.Test.YtogldkjhcmlneaaW9
namespace Go.Proofs.Ytogldkjhcmlneaa
open Go.RowKit Go.Shelf

theorem len_uniq {v n m : Int} (h' : LenIs v n) (h : LenIs v m) : n = m := by
  by_cases c : v = 0
  · rw [h.z c, h'.z c]
  · have g1 := h'.ge c
    have g2 := h.ge c
    have h1 := h'.lt
    have n0 := h'.n0
    have k1 := h.lt
    have m0 := h.n0
    rcases Int.lt_trichotomy n m with c1 | c1 | c1
    · have a := pw_mono (a := n + 1) (b := m) (by omega) (by omega)
      have b := pw_succ n (by omega)
      omega
    · exact c1
    · have a := pw_mono (a := m + 1) (b := n) (by omega) (by omega)
      have b := pw_succ m m0
      omega
set_option maxHeartbeats 400000 in
theorem len_zero (w : World) : Calls Try.prog 20 #[.agg #[.int .u64 0, .int .u64 0]] w fun e w' => e = .returned (.int .i64 0) ∧ Below w.heap.size w w' := by
  have K : Hid (∀ W : World, Calls Try.prog 45 #[.int .u64 0] W fun e w' => e = .returned (.int .i64 0) ∧ W = w') := fun W => (Try.bits_Len64 0 W (by decide) (by decide)).mono (by rintro e w' ⟨rfl, rfl⟩; exact ⟨rfl, rfl⟩)
  have Hb : Hid (∀ o, Below w.heap.size w (w.alloc o)) := fun o => below_new _ _
  go_enter Try.func20, Try.ntmps20
  go_wp2_with (go_at_call 45; refine (K.out _).mono ?_; rintro e w' ⟨rfl, rfl⟩)
  go_ret
  exact ⟨rfl, Hb.out _⟩
theorem len_full (h l : Int) (h1 : Word h) (h2 : Word l) (w : World) : Calls Try.prog 20 #[.agg #[.int .u64 h, .int .u64 l]] w (NLenPost (val h l) w) := by
  have hv := val_nonneg h1 h2
  by_cases c : val h l = 0
  · have e : h = 0 ∧ l = 0 := by unfold val Word at *; omega
    obtain ⟨rfl, rfl⟩ := e
    refine (len_zero w).mono ?_
    rintro e w' ⟨rfl, hb⟩
    exact ⟨0, ⟨by decide, by decide, fun _ => rfl, by decide, fun h => absurd rfl h⟩, rfl, hb⟩
  · refine (len_any h l h1 h2 w).mono ?_
    rintro e w' ⟨n, rfl, _, g1, g2, hb⟩
    exact ⟨(n : Int), ⟨by omega, hv.1, fun e => absurd e c, g1, g2⟩, rfl, hb⟩
theorem keep4 {W w1 w2 : World} {p q : Nat} {u0 u1 v0 v1 : Option Value} (h : w1.cell? ⟨p, 0, none⟩ = u0 ∧ w1.cell? ⟨p, 1, none⟩ = u1 ∧ w1.cell? ⟨q, 0, none⟩ = v0 ∧ w1.cell? ⟨q, 1, none⟩ = v1 ∧ Below W.heap.size W w1) (hp : p < W.heap.size) (hq : q < W.heap.size) (hb : Below w1.heap.size w1 w2) :
    w2.cell? ⟨p, 0, none⟩ = u0 ∧ w2.cell? ⟨p, 1, none⟩ = u1 ∧ w2.cell? ⟨q, 0, none⟩ = v0 ∧ w2.cell? ⟨q, 1, none⟩ = v1 ∧ Below W.heap.size W w2 := by
  obtain ⟨h1, h2, h3, h4, h5⟩ := h
  have hp := Nat.lt_of_lt_of_le hp h5.size
  have hq := Nat.lt_of_lt_of_le hq h5.size
  exact ⟨by rw [(bcell hb).1 _ _ hp]; exact h1, by rw [(bcell hb).1 _ _ hp]; exact h2, by rw [(bcell hb).1 _ _ hq]; exact h3, by rw [(bcell hb).1 _ _ hq]; exact h4, h5.trans (hb.mono h5.size)⟩
theorem Sl.drew {w : World} {B : Nat} {A : Option Addr} {n c : Nat} {l : List Int} (h : Sl w B A n c l) : Sl w.drew B A n c l := h.keep fun _ _ _ => rfl
theorem cmp_eq {c x y : Int} (h : (c = -1 ∧ x < y) ∨ (c = 0 ∧ x = y) ∨ (c = 1 ∧ y < x)) : c = cmpI x y := by
  unfold cmpI
  rcases h with ⟨rfl, h⟩ | ⟨rfl, h⟩ | ⟨rfl, h⟩
  · rw [if_pos h]
  · rw [if_neg (by omega), if_pos h]
  · rw [if_neg (by omega), if_neg (by omega)]
theorem sum_same {s x y v : Int} {o o' : Bool} (h0 : 0 ≤ v) (h1 : v < 340282366920938463463374607431768211456) (hs : (o = true ∧ v + 340282366920938463463374607431768211456 = s) ∨ (o = false ∧ v = s))
    (hr : (o' = true ∧ x + 340282366920938463463374607431768211456 = y) ∨ (o' = false ∧ x = y ∧ x < 340282366920938463463374607431768211456)) (hx : 0 ≤ x) (e : y = s) : x = v ∧ o' = o := by
  rcases hs with ⟨rfl, hs⟩ | ⟨rfl, hs⟩ <;> rcases hr with ⟨rfl, hr⟩ | ⟨rfl, hr, hr2⟩
  · exact ⟨by omega, rfl⟩
  · omega
  · omega
  · exact ⟨by omega, rfl⟩
theorem diff_same {x y v r : Int} {o o' : Bool} (h0 : 0 ≤ v) (h1 : v < 340282366920938463463374607431768211456)
    (hs : (o = true ∧ v = x - y + 340282366920938463463374607431768211456) ∨ (o = false ∧ v = x - y))
    (hr : (o' = true ∧ r = x - y + 340282366920938463463374607431768211456 ∧ x < y) ∨ (o' = false ∧ r = x - y ∧ y ≤ x)) : r = v ∧ o' = o := by
  rcases hs with ⟨rfl, hs⟩ | ⟨rfl, hs⟩ <;> rcases hr with ⟨rfl, hr, hr2⟩ | ⟨rfl, hr, hr2⟩
  · exact ⟨by omega, rfl⟩
  · omega
  · omega
  · exact ⟨by omega, rfl⟩

set_option maxRecDepth 100000 in
set_option maxHeartbeats 8000000 in
theorem sums_any (ah al bh bl : Int) (h1 : Word ah) (h2 : Word al) (h3 : Word bh) (h4 : Word bl) (w : World) :
    Calls Try.prog 3 #[.agg #[.int .u64 ah, .int .u64 al], .agg #[.int .u64 bh, .int .u64 bl]] w (TruePost w) := by
  have H1 := Lib.hid h1; have H2 := Lib.hid h2; have H3 := Lib.hid h3; have H4 := Lib.hid h4
  have Va := Lib.hid (val_nonneg h1 h2); have Vb := Lib.hid (val_nonneg h3 h4)
  clear h1 h2 h3 h4
  go_enter Try.func3, Try.ntmps3
  go_wp2_with fail
  refine (shown_any _).mono ?_
  rintro e w1 ⟨rfl, hb1⟩
  have st1 : Below w.heap.size w w1 := by first | exact hb1 | exact (below_new _ _).trans (hb1.mono (by simp)) | exact ((below_new _ _).alloc (by simp) _).trans (hb1.mono (by simp; omega))
  have sz1 := hb1.size; try simp at sz1
  have hB1 := st1
  have y1 : w.heap.size ≤ w1.heap.size := hB1.size
  have z0_1 : w.heap.size < w1.heap.size := by omega
  have c0_0_1 : w1.cell? ⟨w.heap.size, 0, none⟩ = some (.int .u64 ah) := by rw [(bcell hb1).1 _ _ (by first | (simp; done) | (simp; omega) | omega)]; simp [go_sem]
  have c0_1_1 : w1.cell? ⟨w.heap.size, 1, none⟩ = some (.int .u64 al) := by rw [(bcell hb1).1 _ _ (by first | (simp; done) | (simp; omega) | omega)]; simp [go_sem]
  have z1_1 : w.heap.size + 1 < w1.heap.size := by omega
  have c1_0_1 : w1.cell? ⟨w.heap.size + 1, 0, none⟩ = some (.int .u64 bh) := by rw [(bcell hb1).1 _ _ (by first | (simp; done) | (simp; omega) | omega)]; simp [go_sem]
  have c1_1_1 : w1.cell? ⟨w.heap.size + 1, 1, none⟩ = some (.int .u64 bl) := by rw [(bcell hb1).1 _ _ (by first | (simp; done) | (simp; omega) | omega)]; simp [go_sem]
  clear hb1 st1
  go_wp2_with fail
  refine (lnat_any ah al H1.out H2.out _).mono ?_
  rintro e w2 ⟨A1, n1, c1, l1, rfl, hs1, hn1, hv1, _, hb2⟩
  have st2 : Below w1.heap.size w1 w2 := by first | exact hb2 | exact (below_new _ _).trans (hb2.mono (by simp)) | exact ((below_new _ _).alloc (by simp) _).trans (hb2.mono (by simp; omega))
  have sz2 := hb2.size; try simp at sz2
  have hB2 : Below w.heap.size w w2 := hB1.trans (st2.mono hB1.size)
  have y2 : w.heap.size ≤ w2.heap.size := hB2.size
  have c0_0_2 : w2.cell? ⟨w.heap.size, 0, none⟩ = some (.int .u64 ah) := by rw [(bcell st2).1 _ _ (by omega)]; exact c0_0_1
  have c0_1_2 : w2.cell? ⟨w.heap.size, 1, none⟩ = some (.int .u64 al) := by rw [(bcell st2).1 _ _ (by omega)]; exact c0_1_1
  have c1_0_2 : w2.cell? ⟨w.heap.size + 1, 0, none⟩ = some (.int .u64 bh) := by rw [(bcell st2).1 _ _ (by omega)]; exact c1_0_1
  have c1_1_2 : w2.cell? ⟨w.heap.size + 1, 1, none⟩ = some (.int .u64 bl) := by rw [(bcell st2).1 _ _ (by omega)]; exact c1_1_1
  have z0_2 : w.heap.size < w2.heap.size := by omega
  have z1_2 : w.heap.size + 1 < w2.heap.size := by omega
  clear c0_0_1 c0_1_1 c1_0_1 c1_1_1
  clear hb2 st2 hB1
  have n1b : n1 ≤ 8 := hs1.small hn1 (by rw [hv1]; have := Va.out.2; omega)
  have hv1 := Lib.hid hv1; have hn1 := Lib.hid hn1
  go_wp2_with fail
  refine (lnat_any bh bl H3.out H4.out _).mono ?_
  rintro e w3 ⟨A2, n2, c2, l2, rfl, hs2, hn2, hv2, _, hb3⟩
  have st3 : Below w2.heap.size w2 w3 := by first | exact hb3 | exact (below_new _ _).trans (hb3.mono (by simp)) | exact ((below_new _ _).alloc (by simp) _).trans (hb3.mono (by simp; omega))
  have sz3 := hb3.size; try simp at sz3
  have hB3 : Below w.heap.size w w3 := hB2.trans (st3.mono hB2.size)
  have y3 : w.heap.size ≤ w3.heap.size := hB3.size
  have c0_0_3 : w3.cell? ⟨w.heap.size, 0, none⟩ = some (.int .u64 ah) := by rw [(bcell st3).1 _ _ (by omega)]; exact c0_0_2
  have c0_1_3 : w3.cell? ⟨w.heap.size, 1, none⟩ = some (.int .u64 al) := by rw [(bcell st3).1 _ _ (by omega)]; exact c0_1_2
  have c1_0_3 : w3.cell? ⟨w.heap.size + 1, 0, none⟩ = some (.int .u64 bh) := by rw [(bcell st3).1 _ _ (by omega)]; exact c1_0_2
  have c1_1_3 : w3.cell? ⟨w.heap.size + 1, 1, none⟩ = some (.int .u64 bl) := by rw [(bcell st3).1 _ _ (by omega)]; exact c1_1_2
  have z0_3 : w.heap.size < w3.heap.size := by omega
  have z1_3 : w.heap.size + 1 < w3.heap.size := by omega
  clear c0_0_2 c0_1_2 c1_0_2 c1_1_2
  have hs1 := hs1.on st3
  clear hb3 st3 hB2
  have n2b : n2 ≤ 8 := hs2.small hn2 (by rw [hv2]; have := Vb.out.2; omega)
  have hv2 := Lib.hid hv2; have hn2 := Lib.hid hn2
  go_wp2_with fail
  refine (add_any ah al bh bl H1.out H2.out H3.out H4.out _).mono ?_
  rintro e w4 ⟨sh, sl, so, rfl, hw1, hw2, hsv, hb4⟩
  have hw1 := Lib.hid hw1
  have hw2 := Lib.hid hw2
  have hsv := Lib.hid hsv
  have st4 : Below w3.heap.size w3 w4 := by first | exact hb4 | exact (below_new _ _).trans (hb4.mono (by simp)) | exact ((below_new _ _).alloc (by simp) _).trans (hb4.mono (by simp; omega))
  have sz4 := hb4.size; try simp at sz4
  have hB4 : Below w.heap.size w w4 := hB3.trans (st4.mono hB3.size)
  have y4 : w.heap.size ≤ w4.heap.size := hB4.size
  have c0_0_4 : w4.cell? ⟨w.heap.size, 0, none⟩ = some (.int .u64 ah) := by rw [(bcell st4).1 _ _ (by omega)]; exact c0_0_3
  have c0_1_4 : w4.cell? ⟨w.heap.size, 1, none⟩ = some (.int .u64 al) := by rw [(bcell st4).1 _ _ (by omega)]; exact c0_1_3
  have c1_0_4 : w4.cell? ⟨w.heap.size + 1, 0, none⟩ = some (.int .u64 bh) := by rw [(bcell st4).1 _ _ (by omega)]; exact c1_0_3
  have c1_1_4 : w4.cell? ⟨w.heap.size + 1, 1, none⟩ = some (.int .u64 bl) := by rw [(bcell st4).1 _ _ (by omega)]; exact c1_1_3
  have z0_4 : w.heap.size < w4.heap.size := by omega
  have z1_4 : w.heap.size + 1 < w4.heap.size := by omega
  clear c0_0_3 c0_1_3 c1_0_3 c1_1_3
  have hs1 := hs1.on st4
  have hs2 := hs2.on st4
  clear hb4 st4 hB3
  go_wp2_with fail
  refine (radd_any A1 A2 n1 n2 c1 c2 l1 l2 _ (hs1.on (below_new _ _)) (hs2.on (below_new _ _)) n1b n2b (by rw [hv1.out]; exact Va.out.2) (by rw [hv2.out]; exact Vb.out.2)).mono ?_
  rintro e w5 ⟨A3, n3, c3, l3, so2, rfl, hs3, hn3, hp3, hb5⟩
  have hn3 := Lib.hid hn3
  have st5 : Below w4.heap.size w4 w5 := by first | exact hb5 | exact (below_new _ _).trans (hb5.mono (by simp)) | exact ((below_new _ _).alloc (by simp) _).trans (hb5.mono (by simp; omega))
  have sz5 := hb5.size; try simp at sz5
  have hB5 : Below w.heap.size w w5 := hB4.trans (st5.mono hB4.size)
  have y5 : w.heap.size ≤ w5.heap.size := hB5.size
  have c0_0_5 : w5.cell? ⟨w.heap.size, 0, none⟩ = some (.int .u64 ah) := by rw [(bcell st5).1 _ _ (by omega)]; exact c0_0_4
  have c0_1_5 : w5.cell? ⟨w.heap.size, 1, none⟩ = some (.int .u64 al) := by rw [(bcell st5).1 _ _ (by omega)]; exact c0_1_4
  have c1_0_5 : w5.cell? ⟨w.heap.size + 1, 0, none⟩ = some (.int .u64 bh) := by rw [(bcell st5).1 _ _ (by omega)]; exact c1_0_4
  have c1_1_5 : w5.cell? ⟨w.heap.size + 1, 1, none⟩ = some (.int .u64 bl) := by rw [(bcell st5).1 _ _ (by omega)]; exact c1_1_4
  have z2_5 : w4.heap.size < w5.heap.size := by omega
  have c2_0_5 : w5.cell? ⟨w4.heap.size, 0, none⟩ = some (.int .u64 sh) := by rw [(bcell hb5).1 _ _ (by first | (simp; done) | (simp; omega) | omega)]; simp [go_sem]
  have c2_1_5 : w5.cell? ⟨w4.heap.size, 1, none⟩ = some (.int .u64 sl) := by rw [(bcell hb5).1 _ _ (by first | (simp; done) | (simp; omega) | omega)]; simp [go_sem]
  have z0_5 : w.heap.size < w5.heap.size := by omega
  have z1_5 : w.heap.size + 1 < w5.heap.size := by omega
  clear c0_0_4 c0_1_4 c1_0_4 c1_1_4
  have hs1 := hs1.on st5
  have hs2 := hs2.on st5
  clear hb5 st5 hB4
  obtain ⟨e3, rfl⟩ := sum_same (val_nonneg hw1.out hw2.out).1 (val_nonneg hw1.out hw2.out).2 hsv.out hp3 (natV_nonneg hs3.lim) (by rw [hv1.out, hv2.out])
  have e3 := Lib.hid e3; clear hp3 hsv
  go_wp2_with fail
  refine (sub_any ah al bh bl H1.out H2.out H3.out H4.out _).mono ?_
  rintro e w6 ⟨dh, dl, dd, rfl, hw3, hw4, hdv, hb6⟩
  have hw3 := Lib.hid hw3
  have hw4 := Lib.hid hw4
  have hdv := Lib.hid hdv
  have st6 : Below w5.heap.size w5 w6 := by first | exact hb6 | exact (below_new _ _).trans (hb6.mono (by simp)) | exact ((below_new _ _).alloc (by simp) _).trans (hb6.mono (by simp; omega))
  have sz6 := hb6.size; try simp at sz6
  have hB6 : Below w.heap.size w w6 := hB5.trans (st6.mono hB5.size)
  have y6 : w.heap.size ≤ w6.heap.size := hB6.size
  have c0_0_6 : w6.cell? ⟨w.heap.size, 0, none⟩ = some (.int .u64 ah) := by rw [(bcell st6).1 _ _ (by omega)]; exact c0_0_5
  have c0_1_6 : w6.cell? ⟨w.heap.size, 1, none⟩ = some (.int .u64 al) := by rw [(bcell st6).1 _ _ (by omega)]; exact c0_1_5
  have c1_0_6 : w6.cell? ⟨w.heap.size + 1, 0, none⟩ = some (.int .u64 bh) := by rw [(bcell st6).1 _ _ (by omega)]; exact c1_0_5
  have c1_1_6 : w6.cell? ⟨w.heap.size + 1, 1, none⟩ = some (.int .u64 bl) := by rw [(bcell st6).1 _ _ (by omega)]; exact c1_1_5
  have c2_0_6 : w6.cell? ⟨w4.heap.size, 0, none⟩ = some (.int .u64 sh) := by rw [(bcell st6).1 _ _ (by omega)]; exact c2_0_5
  have c2_1_6 : w6.cell? ⟨w4.heap.size, 1, none⟩ = some (.int .u64 sl) := by rw [(bcell st6).1 _ _ (by omega)]; exact c2_1_5
  have z0_6 : w.heap.size < w6.heap.size := by omega
  have z1_6 : w.heap.size + 1 < w6.heap.size := by omega
  have z2_6 : w4.heap.size < w6.heap.size := by omega
  clear c0_0_5 c0_1_5 c1_0_5 c1_1_5 c2_0_5 c2_1_5
  have hs1 := hs1.on st6
  have hs2 := hs2.on st6
  have hs3 := hs3.on st6
  clear hb6 st6 hB5
  go_wp2_with fail
  refine (rsub_any A1 A2 n1 n2 c1 c2 l1 l2 _ (hs1.on (below_new _ _)) (hs2.on (below_new _ _)) n1b n2b (by rw [hv1.out]; exact Va.out.2) (by rw [hv2.out]; exact Vb.out.2)).mono ?_
  rintro e w7 ⟨A4, n4, c4, l4, dd2, rfl, hs4, hn4, hp4, hb7⟩
  have hn4 := Lib.hid hn4
  have st7 : Below w6.heap.size w6 w7 := by first | exact hb7 | exact (below_new _ _).trans (hb7.mono (by simp)) | exact ((below_new _ _).alloc (by simp) _).trans (hb7.mono (by simp; omega))
  have sz7 := hb7.size; try simp at sz7
  have hB7 : Below w.heap.size w w7 := hB6.trans (st7.mono hB6.size)
  have y7 : w.heap.size ≤ w7.heap.size := hB7.size
  have c0_0_7 : w7.cell? ⟨w.heap.size, 0, none⟩ = some (.int .u64 ah) := by rw [(bcell st7).1 _ _ (by omega)]; exact c0_0_6
  have c0_1_7 : w7.cell? ⟨w.heap.size, 1, none⟩ = some (.int .u64 al) := by rw [(bcell st7).1 _ _ (by omega)]; exact c0_1_6
  have c1_0_7 : w7.cell? ⟨w.heap.size + 1, 0, none⟩ = some (.int .u64 bh) := by rw [(bcell st7).1 _ _ (by omega)]; exact c1_0_6
  have c1_1_7 : w7.cell? ⟨w.heap.size + 1, 1, none⟩ = some (.int .u64 bl) := by rw [(bcell st7).1 _ _ (by omega)]; exact c1_1_6
  have c2_0_7 : w7.cell? ⟨w4.heap.size, 0, none⟩ = some (.int .u64 sh) := by rw [(bcell st7).1 _ _ (by omega)]; exact c2_0_6
  have c2_1_7 : w7.cell? ⟨w4.heap.size, 1, none⟩ = some (.int .u64 sl) := by rw [(bcell st7).1 _ _ (by omega)]; exact c2_1_6
  have z3_7 : w6.heap.size < w7.heap.size := by omega
  have c3_0_7 : w7.cell? ⟨w6.heap.size, 0, none⟩ = some (.int .u64 dh) := by rw [(bcell hb7).1 _ _ (by first | (simp; done) | (simp; omega) | omega)]; simp [go_sem]
  have c3_1_7 : w7.cell? ⟨w6.heap.size, 1, none⟩ = some (.int .u64 dl) := by rw [(bcell hb7).1 _ _ (by first | (simp; done) | (simp; omega) | omega)]; simp [go_sem]
  have z0_7 : w.heap.size < w7.heap.size := by omega
  have z1_7 : w.heap.size + 1 < w7.heap.size := by omega
  have z2_7 : w4.heap.size < w7.heap.size := by omega
  clear c0_0_6 c0_1_6 c1_0_6 c1_1_6 c2_0_6 c2_1_6
  have hs1 := hs1.on st7
  have hs2 := hs2.on st7
  have hs3 := hs3.on st7
  clear hb7 st7 hB6
  obtain ⟨e4, rfl⟩ := diff_same (val_nonneg hw3.out hw4.out).1 (val_nonneg hw3.out hw4.out).2 (by rw [hv1.out, hv2.out]; exact hdv.out) hp4
  have e4 := Lib.hid e4; clear hp4 hdv
  go_wp2_with fail
  refine (is_true A3 n3 c3 l3 sh sl _ hs3 hn3.out hw1.out hw2.out e3.out).mono ?_
  rintro e w8 ⟨rfl, hb8⟩
  have st8 : Below w7.heap.size w7 w8 := by first | exact hb8 | exact (below_new _ _).trans (hb8.mono (by simp)) | exact ((below_new _ _).alloc (by simp) _).trans (hb8.mono (by simp; omega))
  have sz8 := hb8.size; try simp at sz8
  have hB8 : Below w.heap.size w w8 := hB7.trans (st8.mono hB7.size)
  have y8 : w.heap.size ≤ w8.heap.size := hB8.size
  have c0_0_8 : w8.cell? ⟨w.heap.size, 0, none⟩ = some (.int .u64 ah) := by rw [(bcell st8).1 _ _ (by omega)]; exact c0_0_7
  have c0_1_8 : w8.cell? ⟨w.heap.size, 1, none⟩ = some (.int .u64 al) := by rw [(bcell st8).1 _ _ (by omega)]; exact c0_1_7
  have c1_0_8 : w8.cell? ⟨w.heap.size + 1, 0, none⟩ = some (.int .u64 bh) := by rw [(bcell st8).1 _ _ (by omega)]; exact c1_0_7
  have c1_1_8 : w8.cell? ⟨w.heap.size + 1, 1, none⟩ = some (.int .u64 bl) := by rw [(bcell st8).1 _ _ (by omega)]; exact c1_1_7
  have c2_0_8 : w8.cell? ⟨w4.heap.size, 0, none⟩ = some (.int .u64 sh) := by rw [(bcell st8).1 _ _ (by omega)]; exact c2_0_7
  have c2_1_8 : w8.cell? ⟨w4.heap.size, 1, none⟩ = some (.int .u64 sl) := by rw [(bcell st8).1 _ _ (by omega)]; exact c2_1_7
  have c3_0_8 : w8.cell? ⟨w6.heap.size, 0, none⟩ = some (.int .u64 dh) := by rw [(bcell st8).1 _ _ (by omega)]; exact c3_0_7
  have c3_1_8 : w8.cell? ⟨w6.heap.size, 1, none⟩ = some (.int .u64 dl) := by rw [(bcell st8).1 _ _ (by omega)]; exact c3_1_7
  have z0_8 : w.heap.size < w8.heap.size := by omega
  have z1_8 : w.heap.size + 1 < w8.heap.size := by omega
  have z2_8 : w4.heap.size < w8.heap.size := by omega
  have z3_8 : w6.heap.size < w8.heap.size := by omega
  clear c0_0_7 c0_1_7 c1_0_7 c1_1_7 c2_0_7 c2_1_7 c3_0_7 c3_1_7
  have hs1 := hs1.on st8
  have hs2 := hs2.on st8
  have hs3 := hs3.on st8
  have hs4 := hs4.on st8
  clear hb8 st8 hB7
  clear hs3
  go_wp2_with fail
  refine (is_true A4 n4 c4 l4 dh dl _ hs4 hn4.out hw3.out hw4.out e4.out).mono ?_
  rintro e w9 ⟨rfl, hb9⟩
  have st9 : Below w8.heap.size w8 w9 := by first | exact hb9 | exact (below_new _ _).trans (hb9.mono (by simp)) | exact ((below_new _ _).alloc (by simp) _).trans (hb9.mono (by simp; omega))
  have sz9 := hb9.size; try simp at sz9
  have hB9 : Below w.heap.size w w9 := hB8.trans (st9.mono hB8.size)
  have y9 : w.heap.size ≤ w9.heap.size := hB9.size
  have c0_0_9 : w9.cell? ⟨w.heap.size, 0, none⟩ = some (.int .u64 ah) := by rw [(bcell st9).1 _ _ (by omega)]; exact c0_0_8
  have c0_1_9 : w9.cell? ⟨w.heap.size, 1, none⟩ = some (.int .u64 al) := by rw [(bcell st9).1 _ _ (by omega)]; exact c0_1_8
  have c1_0_9 : w9.cell? ⟨w.heap.size + 1, 0, none⟩ = some (.int .u64 bh) := by rw [(bcell st9).1 _ _ (by omega)]; exact c1_0_8
  have c1_1_9 : w9.cell? ⟨w.heap.size + 1, 1, none⟩ = some (.int .u64 bl) := by rw [(bcell st9).1 _ _ (by omega)]; exact c1_1_8
  have c2_0_9 : w9.cell? ⟨w4.heap.size, 0, none⟩ = some (.int .u64 sh) := by rw [(bcell st9).1 _ _ (by omega)]; exact c2_0_8
  have c2_1_9 : w9.cell? ⟨w4.heap.size, 1, none⟩ = some (.int .u64 sl) := by rw [(bcell st9).1 _ _ (by omega)]; exact c2_1_8
  have c3_0_9 : w9.cell? ⟨w6.heap.size, 0, none⟩ = some (.int .u64 dh) := by rw [(bcell st9).1 _ _ (by omega)]; exact c3_0_8
  have c3_1_9 : w9.cell? ⟨w6.heap.size, 1, none⟩ = some (.int .u64 dl) := by rw [(bcell st9).1 _ _ (by omega)]; exact c3_1_8
  have z0_9 : w.heap.size < w9.heap.size := by omega
  have z1_9 : w.heap.size + 1 < w9.heap.size := by omega
  have z2_9 : w4.heap.size < w9.heap.size := by omega
  have z3_9 : w6.heap.size < w9.heap.size := by omega
  clear c0_0_8 c0_1_8 c1_0_8 c1_1_8 c2_0_8 c2_1_8 c3_0_8 c3_1_8
  have hs1 := hs1.on st9
  have hs2 := hs2.on st9
  have hs4 := hs4.on st9
  clear hb9 st9 hB8
  clear hs4
  go_wp2_with fail
  have SS : w9.drew.cell? ⟨w.heap.size, 0, none⟩ = some (.int .u64 ah) ∧ w9.drew.cell? ⟨w.heap.size, 1, none⟩ = some (.int .u64 al) ∧ w9.drew.cell? ⟨w.heap.size + 1, 0, none⟩ = some (.int .u64 bh) ∧ w9.drew.cell? ⟨w.heap.size + 1, 1, none⟩ = some (.int .u64 bl) ∧ Below w9.heap.size w9 w9.drew := ⟨c0_0_9, c0_1_9, c1_0_9, c1_1_9, (Below.refl _ _).drew⟩
  have SS := Lib.hid SS
  go_region_held3 (fun w' => w'.cell? ⟨w.heap.size, 0, none⟩ = some (.int .u64 ah) ∧ w'.cell? ⟨w.heap.size, 1, none⟩ = some (.int .u64 al) ∧ w'.cell? ⟨w.heap.size + 1, 0, none⟩ = some (.int .u64 bh) ∧ w'.cell? ⟨w.heap.size + 1, 1, none⟩ = some (.int .u64 bl) ∧ Below w9.heap.size w9 w')
    (first | exact SS.out | exact keep4 (by assumption) (by omega) (by omega) (by assumption))
    (first
      | (go_at_call 15; refine (mul_any ah bl H1.out H4.out _).mono ?_; rintro e x1 ⟨mh, ml, rfl, hm1, hm2, hm3, hx1⟩; have hm1 := Lib.hid hm1; have hm2 := Lib.hid hm2; have hm3 := Lib.hid hm3)
      | (go_at_call_of 17 (Value.int IntKind.u64 ah); refine (rnat_any 0 0 ah (by decide) (by decide) H1.out _).mono ?_; rintro e x2 ⟨A5, n5, c5, l5, rfl, hs5, hn5, hv5, _, hx2⟩; have hn5 := Lib.hid hn5; have hv5 := Lib.hid hv5)
      | (go_at_call_of 17 (Value.int IntKind.u64 bl); refine (rnat_any 0 0 bl (by decide) (by decide) H4.out _).mono ?_; rintro e x3 ⟨A6, n6, c6, l6, rfl, hs6, hn6, hv6, _, hx3⟩; have hn6 := Lib.hid hn6; have hv6 := Lib.hid hv6; have hs5 := hs5.on hx3)
      | (go_at_call 16; refine (rtimes_any A5 A6 n5 n6 c5 c6 l5 l6 _ hs5 hs6 (by have := hs5.small hn5.out (by rw [hv5.out]; have := H1.out.2; unfold val3; omega); omega) (by have := hs6.small hn6.out (by rw [hv6.out]; have := H4.out.2; unfold val3; omega); omega)).mono ?_; rintro e x4 ⟨A7, n7, c7, l7, rfl, hs7, hn7, hv7, _, hx4⟩; have hn7 := Lib.hid hn7; have hv7 := Lib.hid hv7)
      | (go_at_call 14; refine (is_true A7 n7 c7 l7 mh ml _ hs7 hn7.out hm1.out hm2.out (by rw [hv7.out, hv5.out, hv6.out, hm3.out]; unfold val3; simp)).mono ?_; rintro e x5 ⟨rfl, hx5⟩))
  have hS : x5.cell? ⟨w.heap.size, 0, none⟩ = some (.int .u64 ah) ∧ x5.cell? ⟨w.heap.size, 1, none⟩ = some (.int .u64 al) ∧ x5.cell? ⟨w.heap.size + 1, 0, none⟩ = some (.int .u64 bh) ∧ x5.cell? ⟨w.heap.size + 1, 1, none⟩ = some (.int .u64 bl) ∧ Below w9.heap.size w9 x5 := by assumption
  obtain ⟨d0, d1, d2, d3, st⟩ := hS
  have hB10 : Below w.heap.size w x5 := hB9.trans (st.mono hB9.size)
  have y10 : w.heap.size ≤ x5.heap.size := hB10.size
  have sz10 := st.size
  have hs1 := hs1.on st
  have hs2 := hs2.on st
  clear c0_0_9 c0_1_9 c1_0_9 c1_1_9 st SS hB9 hx1 hx2 hx3 hx4 hx5 hs5 hs6 hs7
  have z0_10 : w.heap.size < x5.heap.size := by omega
  have z1_10 : w.heap.size + 1 < x5.heap.size := by omega
  have c0_0_10 := d0; have c0_1_10 := d1; have c1_0_10 := d2; have c1_1_10 := d3
  clear d0 d1 d2 d3
  go_wp2_with fail
  refine (cmp_any ah al bh bl H1.out H2.out H3.out H4.out _).mono ?_
  rintro e w11 ⟨cc, rfl, hcc, hb11⟩
  have st11 : Below x5.heap.size x5 w11 := by first | exact hb11 | exact (below_new _ _).trans (hb11.mono (by simp)) | exact ((below_new _ _).alloc (by simp) _).trans (hb11.mono (by simp; omega))
  have sz11 := hb11.size; try simp at sz11
  have hB11 : Below w.heap.size w w11 := hB10.trans (st11.mono hB10.size)
  have y11 : w.heap.size ≤ w11.heap.size := hB11.size
  have c0_0_11 : w11.cell? ⟨w.heap.size, 0, none⟩ = some (.int .u64 ah) := by rw [(bcell st11).1 _ _ (by omega)]; exact c0_0_10
  have c0_1_11 : w11.cell? ⟨w.heap.size, 1, none⟩ = some (.int .u64 al) := by rw [(bcell st11).1 _ _ (by omega)]; exact c0_1_10
  have c1_0_11 : w11.cell? ⟨w.heap.size + 1, 0, none⟩ = some (.int .u64 bh) := by rw [(bcell st11).1 _ _ (by omega)]; exact c1_0_10
  have c1_1_11 : w11.cell? ⟨w.heap.size + 1, 1, none⟩ = some (.int .u64 bl) := by rw [(bcell st11).1 _ _ (by omega)]; exact c1_1_10
  have z0_11 : w.heap.size < w11.heap.size := by omega
  have z1_11 : w.heap.size + 1 < w11.heap.size := by omega
  clear c0_0_10 c0_1_10 c1_0_10 c1_1_10
  have hs1 := hs1.on st11
  have hs2 := hs2.on st11
  clear hb11 st11 hB10
  have ecc := cmp_eq hcc
  clear hcc
  go_wp2_with fail
  refine (rcmp_any A1 A2 n1 n2 c1 c2 l1 l2 _ hs1 hs2 (by omega) (by omega)).mono ?_
  rintro e w12 ⟨rfl, hb12⟩
  have st12 : Below w11.heap.size w11 w12 := by first | exact hb12 | exact (below_new _ _).trans (hb12.mono (by simp)) | exact ((below_new _ _).alloc (by simp) _).trans (hb12.mono (by simp; omega))
  have sz12 := hb12.size; try simp at sz12
  have hB12 : Below w.heap.size w w12 := hB11.trans (st12.mono hB11.size)
  have y12 : w.heap.size ≤ w12.heap.size := hB12.size
  have c0_0_12 : w12.cell? ⟨w.heap.size, 0, none⟩ = some (.int .u64 ah) := by rw [(bcell st12).1 _ _ (by omega)]; exact c0_0_11
  have c0_1_12 : w12.cell? ⟨w.heap.size, 1, none⟩ = some (.int .u64 al) := by rw [(bcell st12).1 _ _ (by omega)]; exact c0_1_11
  have c1_0_12 : w12.cell? ⟨w.heap.size + 1, 0, none⟩ = some (.int .u64 bh) := by rw [(bcell st12).1 _ _ (by omega)]; exact c1_0_11
  have c1_1_12 : w12.cell? ⟨w.heap.size + 1, 1, none⟩ = some (.int .u64 bl) := by rw [(bcell st12).1 _ _ (by omega)]; exact c1_1_11
  have z0_12 : w.heap.size < w12.heap.size := by omega
  have z1_12 : w.heap.size + 1 < w12.heap.size := by omega
  clear c0_0_11 c0_1_11 c1_0_11 c1_1_11
  have hs1 := hs1.on st12
  have hs2 := hs2.on st12
  clear hb12 st12 hB11
  rw [hv1.out, hv2.out, ← ecc]
  have ecc := Lib.hid ecc
  go_wp2_with fail
  refine (len_full ah al H1.out H2.out _).mono ?_
  rintro e w13 ⟨ln, hln, rfl, hb13⟩
  have hln := Lib.hid hln
  have st13 : Below w12.heap.size w12 w13 := by first | exact hb13 | exact (below_new _ _).trans (hb13.mono (by simp)) | exact ((below_new _ _).alloc (by simp) _).trans (hb13.mono (by simp; omega))
  have sz13 := hb13.size; try simp at sz13
  have hB13 : Below w.heap.size w w13 := hB12.trans (st13.mono hB12.size)
  have y13 : w.heap.size ≤ w13.heap.size := hB13.size
  have c0_0_13 : w13.cell? ⟨w.heap.size, 0, none⟩ = some (.int .u64 ah) := by rw [(bcell st13).1 _ _ (by omega)]; exact c0_0_12
  have c0_1_13 : w13.cell? ⟨w.heap.size, 1, none⟩ = some (.int .u64 al) := by rw [(bcell st13).1 _ _ (by omega)]; exact c0_1_12
  have c1_0_13 : w13.cell? ⟨w.heap.size + 1, 0, none⟩ = some (.int .u64 bh) := by rw [(bcell st13).1 _ _ (by omega)]; exact c1_0_12
  have c1_1_13 : w13.cell? ⟨w.heap.size + 1, 1, none⟩ = some (.int .u64 bl) := by rw [(bcell st13).1 _ _ (by omega)]; exact c1_1_12
  have z0_13 : w.heap.size < w13.heap.size := by omega
  have z1_13 : w.heap.size + 1 < w13.heap.size := by omega
  clear c0_0_12 c0_1_12 c1_0_12 c1_1_12
  have hs1 := hs1.on st13
  have hs2 := hs2.on st13
  clear hb13 st13 hB12
  go_wp2_with fail
  refine (rlen_any A1 n1 c1 l1 _ hs1 (by omega)).mono ?_
  rintro e w14 ⟨lm, hlm, rfl, hb14⟩
  have hlm := Lib.hid hlm
  have st14 : Below w13.heap.size w13 w14 := by first | exact hb14 | exact (below_new _ _).trans (hb14.mono (by simp)) | exact ((below_new _ _).alloc (by simp) _).trans (hb14.mono (by simp; omega))
  have sz14 := hb14.size; try simp at sz14
  have hB14 : Below w.heap.size w w14 := hB13.trans (st14.mono hB13.size)
  have y14 : w.heap.size ≤ w14.heap.size := hB14.size
  have c0_0_14 : w14.cell? ⟨w.heap.size, 0, none⟩ = some (.int .u64 ah) := by rw [(bcell st14).1 _ _ (by omega)]; exact c0_0_13
  have c0_1_14 : w14.cell? ⟨w.heap.size, 1, none⟩ = some (.int .u64 al) := by rw [(bcell st14).1 _ _ (by omega)]; exact c0_1_13
  have c1_0_14 : w14.cell? ⟨w.heap.size + 1, 0, none⟩ = some (.int .u64 bh) := by rw [(bcell st14).1 _ _ (by omega)]; exact c1_0_13
  have c1_1_14 : w14.cell? ⟨w.heap.size + 1, 1, none⟩ = some (.int .u64 bl) := by rw [(bcell st14).1 _ _ (by omega)]; exact c1_1_13
  have z0_14 : w.heap.size < w14.heap.size := by omega
  have z1_14 : w.heap.size + 1 < w14.heap.size := by omega
  clear c0_0_13 c0_1_13 c1_0_13 c1_1_13
  have hs1 := hs1.on st14
  have hs2 := hs2.on st14
  clear hb14 st14 hB13
  obtain rfl : lm = ln := len_uniq (by rw [← hv1.out]; exact hlm.out) hln.out
  go_wp2
  go_ret
  exact ⟨by simp, hB14⟩
end Go.Proofs.Ytogldkjhcmlneaa
