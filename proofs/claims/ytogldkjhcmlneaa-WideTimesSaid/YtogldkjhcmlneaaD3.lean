/-
  The statement WideShifts, walked.
-/
import Derived.Test.YtogldkjhcmlneaaD1
import Derived.Test.YtogldkjhcmlneaaL9
namespace Go.Proofs.Ytogldkjhcmlneaa
open Go.RowKit Go.Shelf

theorem bool_dec {o : Bool} {x : Int} (h : o = false ↔ x = 0) : decide (x ≠ 0) = o := by
  cases o
  · simp [h.1 rfl]
  · have : x ≠ 0 := fun e => by have := h.2 e; cases this
    simp [this]
theorem cmp_zero {x y : Int} {o : Bool} (h : o = true ↔ x = y) : (cmpI x y == 0) = o := by
  have : cmpI x y = 0 ↔ x = y := by unfold cmpI; split <;> (try split) <;> omega
  cases o
  · have h1 : cmpI x y ≠ 0 := fun e => by have := h.2 (this.1 e); cases this
    simpa using h1
  · simpa using this.2 (h.1 rfl)
theorem val3_lo {x : Int} : val3 0 0 x = x := by unfold val3; omega
theorem part_lo {v m : Int} (h0 : 0 ≤ v) (h1 : v < 18446744073709551616) (e : v = m) : partI v 0 = m := by
  unfold partI; rw [show pw (64 * ((0 : Nat) : Int)) = 1 from rfl]; omega

set_option maxRecDepth 100000 in
set_option maxHeartbeats 8000000 in
theorem shifts_zero (ah al n : Int) (h1 : Word ah) (h2 : Word al) (_n0 : -9223372036854775808 ≤ n) (n1 : n ≤ 9223372036854775807) (w : World) :
    Calls Try.prog 4 #[.agg #[.int .u64 ah, .int .u64 al], .int .u64 0, .int .i64 n] w (TruePost w) := by
  have H1 := Lib.hid h1; have H2 := Lib.hid h2
  have Va := Lib.hid (val_nonneg h1 h2)
  clear h1 h2
  go_enter Try.func4, Try.ntmps4
  go_wp2_with fail
  refine (shown_any _).mono ?_
  rintro e w1 ⟨rfl, hb1⟩
  have st1 : Below w.heap.size w w1 := by first | exact hb1 | exact (below_new _ _).trans (hb1.mono (by simp)) | exact ((below_new _ _).alloc (by simp) _).trans (hb1.mono (by simp; omega))
  have sz1 := hb1.size; try simp at sz1
  have hB1 := st1
  have y1 : w.heap.size ≤ w1.heap.size := hB1.size
  have z0_1 : w.heap.size < w1.heap.size := by omega
  have c0_0_1 : w1.cell? ⟨w.heap.size, 0, none⟩ = some (.int .u64 ah) := by rw [(bcell hb1).1 _ _ (by first | (simp; done) | (simp; omega) | omega)]; simp [go_sem]
  have c0_1_1 : w1.cell? ⟨w.heap.size, 1, none⟩ = some (.int .u64 al) := by rw [(bcell hb1).1 _ _ (by first | (simp; done) | (simp; omega) | omega)]; simp [go_sem]
  clear hb1 st1
  go_wp2_with fail
  refine (lnat_any ah al H1.out H2.out _).mono ?_
  rintro e w2 ⟨A1, k1, c1, l1, rfl, hs1, hn1, hv1, _, hb2⟩
  have st2 : Below w1.heap.size w1 w2 := by first | exact hb2 | exact (below_new _ _).trans (hb2.mono (by simp)) | exact ((below_new _ _).alloc (by simp) _).trans (hb2.mono (by simp; omega))
  have sz2 := hb2.size; try simp at sz2
  have hB2 : Below w.heap.size w w2 := hB1.trans (st2.mono hB1.size)
  have y2 : w.heap.size ≤ w2.heap.size := hB2.size
  have c0_0_2 : w2.cell? ⟨w.heap.size, 0, none⟩ = some (.int .u64 ah) := by rw [(bcell st2).1 _ _ (by omega)]; exact c0_0_1
  have c0_1_2 : w2.cell? ⟨w.heap.size, 1, none⟩ = some (.int .u64 al) := by rw [(bcell st2).1 _ _ (by omega)]; exact c0_1_1
  have z0_2 : w.heap.size < w2.heap.size := by omega
  clear c0_0_1 c0_1_1
  clear hb2 st2 hB1
  have n1b : k1 ≤ 8 := hs1.small hn1 (by rw [hv1]; have := Va.out.2; omega)
  have hv1 := Lib.hid hv1; have hn1 := Lib.hid hn1
  go_wp2_with fail
  refine (shr_any ah al n H1.out H2.out n1 _).mono ?_
  rintro e w3 ⟨rh, rl, lo, rfl, hw1, hw2, hrv, hro, hb3⟩
  have hw1 := Lib.hid hw1
  have hw2 := Lib.hid hw2
  have hrv := Lib.hid hrv
  have hro := Lib.hid hro
  have st3 : Below w2.heap.size w2 w3 := by first | exact hb3 | exact (below_new _ _).trans (hb3.mono (by simp)) | exact ((below_new _ _).alloc (by simp) _).trans (hb3.mono (by simp; omega))
  have sz3 := hb3.size; try simp at sz3
  have hB3 : Below w.heap.size w w3 := hB2.trans (st3.mono hB2.size)
  have y3 : w.heap.size ≤ w3.heap.size := hB3.size
  have c0_0_3 : w3.cell? ⟨w.heap.size, 0, none⟩ = some (.int .u64 ah) := by rw [(bcell st3).1 _ _ (by omega)]; exact c0_0_2
  have c0_1_3 : w3.cell? ⟨w.heap.size, 1, none⟩ = some (.int .u64 al) := by rw [(bcell st3).1 _ _ (by omega)]; exact c0_1_2
  have z0_3 : w.heap.size < w3.heap.size := by omega
  clear c0_0_2 c0_1_2
  have hs1 := hs1.on st3
  clear hb3 st3 hB2
  go_wp2_with fail
  refine (r2shr_any A1 k1 c1 l1 n _ (hs1.on (below_new _ _)) (by omega) n1).mono ?_
  rintro e w4 ⟨A2, k2, c2, l2, lo2, rfl, hs2, hn2, hp2, hb4⟩
  have hn2 := Lib.hid hn2
  have st4 : Below w3.heap.size w3 w4 := by first | exact hb4 | exact (below_new _ _).trans (hb4.mono (by simp)) | exact ((below_new _ _).alloc (by simp) _).trans (hb4.mono (by simp; omega))
  have sz4 := hb4.size; try simp at sz4
  have hB4 : Below w.heap.size w w4 := hB3.trans (st4.mono hB3.size)
  have y4 : w.heap.size ≤ w4.heap.size := hB4.size
  have c0_0_4 : w4.cell? ⟨w.heap.size, 0, none⟩ = some (.int .u64 ah) := by rw [(bcell st4).1 _ _ (by omega)]; exact c0_0_3
  have c0_1_4 : w4.cell? ⟨w.heap.size, 1, none⟩ = some (.int .u64 al) := by rw [(bcell st4).1 _ _ (by omega)]; exact c0_1_3
  have z1_4 : w3.heap.size < w4.heap.size := by omega
  have c1_0_4 : w4.cell? ⟨w3.heap.size, 0, none⟩ = some (.int .u64 rh) := by rw [(bcell hb4).1 _ _ (by first | (simp; done) | (simp; omega) | omega)]; simp [go_sem]
  have c1_1_4 : w4.cell? ⟨w3.heap.size, 1, none⟩ = some (.int .u64 rl) := by rw [(bcell hb4).1 _ _ (by first | (simp; done) | (simp; omega) | omega)]; simp [go_sem]
  have z0_4 : w.heap.size < w4.heap.size := by omega
  clear c0_0_3 c0_1_3
  have hs1 := hs1.on st4
  clear hb4 st4 hB3
  obtain ⟨e2, e3⟩ := hp2
  rw [hv1.out] at e2 e3
  obtain rfl : lo2 = lo := by rw [e3]; exact bool_dec hro.out
  have e2 := Lib.hid e2; clear e3 hro
  go_wp2_with fail
  refine (shl_any ah al n H1.out H2.out n1 _).mono ?_
  rintro e w5 ⟨sh, sl, rfl, hw3, hw4, hsv, hb5⟩
  have hw3 := Lib.hid hw3
  have hw4 := Lib.hid hw4
  have hsv := Lib.hid hsv
  have st5 : Below w4.heap.size w4 w5 := by first | exact hb5 | exact (below_new _ _).trans (hb5.mono (by simp)) | exact ((below_new _ _).alloc (by simp) _).trans (hb5.mono (by simp; omega))
  have sz5 := hb5.size; try simp at sz5
  have hB5 : Below w.heap.size w w5 := hB4.trans (st5.mono hB4.size)
  have y5 : w.heap.size ≤ w5.heap.size := hB5.size
  have c0_0_5 : w5.cell? ⟨w.heap.size, 0, none⟩ = some (.int .u64 ah) := by rw [(bcell st5).1 _ _ (by omega)]; exact c0_0_4
  have c0_1_5 : w5.cell? ⟨w.heap.size, 1, none⟩ = some (.int .u64 al) := by rw [(bcell st5).1 _ _ (by omega)]; exact c0_1_4
  have c1_0_5 : w5.cell? ⟨w3.heap.size, 0, none⟩ = some (.int .u64 rh) := by rw [(bcell st5).1 _ _ (by omega)]; exact c1_0_4
  have c1_1_5 : w5.cell? ⟨w3.heap.size, 1, none⟩ = some (.int .u64 rl) := by rw [(bcell st5).1 _ _ (by omega)]; exact c1_1_4
  have z0_5 : w.heap.size < w5.heap.size := by omega
  have z1_5 : w3.heap.size < w5.heap.size := by omega
  clear c0_0_4 c0_1_4 c1_0_4 c1_1_4
  have hs1 := hs1.on st5
  have hs2 := hs2.on st5
  clear hb5 st5 hB4
  go_wp2_with fail
  refine (r2shl_any A1 k1 c1 l1 n _ hs1 n1b).mono ?_
  rintro e w6 ⟨A3, k3, c3, l3, rfl, hs3, hn3, hv3, _, hb6⟩
  have hn3 := Lib.hid hn3
  have st6 : Below w5.heap.size w5 w6 := by first | exact hb6 | exact (below_new _ _).trans (hb6.mono (by simp)) | exact ((below_new _ _).alloc (by simp) _).trans (hb6.mono (by simp; omega))
  have sz6 := hb6.size; try simp at sz6
  have hB6 : Below w.heap.size w w6 := hB5.trans (st6.mono hB5.size)
  have y6 : w.heap.size ≤ w6.heap.size := hB6.size
  have c0_0_6 : w6.cell? ⟨w.heap.size, 0, none⟩ = some (.int .u64 ah) := by rw [(bcell st6).1 _ _ (by omega)]; exact c0_0_5
  have c0_1_6 : w6.cell? ⟨w.heap.size, 1, none⟩ = some (.int .u64 al) := by rw [(bcell st6).1 _ _ (by omega)]; exact c0_1_5
  have c1_0_6 : w6.cell? ⟨w3.heap.size, 0, none⟩ = some (.int .u64 rh) := by rw [(bcell st6).1 _ _ (by omega)]; exact c1_0_5
  have c1_1_6 : w6.cell? ⟨w3.heap.size, 1, none⟩ = some (.int .u64 rl) := by rw [(bcell st6).1 _ _ (by omega)]; exact c1_1_5
  have z0_6 : w.heap.size < w6.heap.size := by omega
  have z1_6 : w3.heap.size < w6.heap.size := by omega
  clear c0_0_5 c0_1_5 c1_0_5 c1_1_5
  have hs1 := hs1.on st6
  have hs2 := hs2.on st6
  clear hb6 st6 hB5
  rw [hv1.out] at hv3
  have hv3 := Lib.hid hv3
  go_wp2_with fail
  refine (is_true A3 k3 c3 l3 sh sl _ hs3 hn3.out hw3.out hw4.out (by rw [hv3.out, hsv.out])).mono ?_
  rintro e w7 ⟨rfl, hb7⟩
  have st7 : Below w6.heap.size w6 w7 := by first | exact hb7 | exact (below_new _ _).trans (hb7.mono (by simp)) | exact ((below_new _ _).alloc (by simp) _).trans (hb7.mono (by simp; omega))
  have sz7 := hb7.size; try simp at sz7
  have hB7 : Below w.heap.size w w7 := hB6.trans (st7.mono hB6.size)
  have y7 : w.heap.size ≤ w7.heap.size := hB7.size
  have c0_0_7 : w7.cell? ⟨w.heap.size, 0, none⟩ = some (.int .u64 ah) := by rw [(bcell st7).1 _ _ (by omega)]; exact c0_0_6
  have c0_1_7 : w7.cell? ⟨w.heap.size, 1, none⟩ = some (.int .u64 al) := by rw [(bcell st7).1 _ _ (by omega)]; exact c0_1_6
  have c1_0_7 : w7.cell? ⟨w3.heap.size, 0, none⟩ = some (.int .u64 rh) := by rw [(bcell st7).1 _ _ (by omega)]; exact c1_0_6
  have c1_1_7 : w7.cell? ⟨w3.heap.size, 1, none⟩ = some (.int .u64 rl) := by rw [(bcell st7).1 _ _ (by omega)]; exact c1_1_6
  have z0_7 : w.heap.size < w7.heap.size := by omega
  have z1_7 : w3.heap.size < w7.heap.size := by omega
  clear c0_0_6 c0_1_6 c1_0_6 c1_1_6
  have hs1 := hs1.on st7
  have hs2 := hs2.on st7
  have hs3 := hs3.on st7
  clear hb7 st7 hB6
  clear hs3
  go_wp2_with fail
  refine (is_true A2 k2 c2 l2 rh rl _ hs2 hn2.out hw1.out hw2.out (by rw [e2.out, hrv.out])).mono ?_
  rintro e w8 ⟨rfl, hb8⟩
  have st8 : Below w7.heap.size w7 w8 := by first | exact hb8 | exact (below_new _ _).trans (hb8.mono (by simp)) | exact ((below_new _ _).alloc (by simp) _).trans (hb8.mono (by simp; omega))
  have sz8 := hb8.size; try simp at sz8
  have hB8 : Below w.heap.size w w8 := hB7.trans (st8.mono hB7.size)
  have y8 : w.heap.size ≤ w8.heap.size := hB8.size
  have c0_0_8 : w8.cell? ⟨w.heap.size, 0, none⟩ = some (.int .u64 ah) := by rw [(bcell st8).1 _ _ (by omega)]; exact c0_0_7
  have c0_1_8 : w8.cell? ⟨w.heap.size, 1, none⟩ = some (.int .u64 al) := by rw [(bcell st8).1 _ _ (by omega)]; exact c0_1_7
  have c1_0_8 : w8.cell? ⟨w3.heap.size, 0, none⟩ = some (.int .u64 rh) := by rw [(bcell st8).1 _ _ (by omega)]; exact c1_0_7
  have c1_1_8 : w8.cell? ⟨w3.heap.size, 1, none⟩ = some (.int .u64 rl) := by rw [(bcell st8).1 _ _ (by omega)]; exact c1_1_7
  have z0_8 : w.heap.size < w8.heap.size := by omega
  have z1_8 : w3.heap.size < w8.heap.size := by omega
  clear c0_0_7 c0_1_7 c1_0_7 c1_1_7
  have hs1 := hs1.on st8
  have hs2 := hs2.on st8
  clear hb8 st8 hB7
  clear hs2
  go_wp2_with fail
  refine (div_zero ah al _).mono ?_
  rintro e w9 ⟨rfl, hb9⟩
  have st9 : Below w8.heap.size w8 w9 := by first | exact hb9 | exact (below_new _ _).trans (hb9.mono (by simp)) | exact ((below_new _ _).alloc (by simp) _).trans (hb9.mono (by simp; omega))
  have sz9 := hb9.size; try simp at sz9
  have hB9 : Below w.heap.size w w9 := hB8.trans (st9.mono hB8.size)
  have y9 : w.heap.size ≤ w9.heap.size := hB9.size
  have c0_0_9 : w9.cell? ⟨w.heap.size, 0, none⟩ = some (.int .u64 ah) := by rw [(bcell st9).1 _ _ (by omega)]; exact c0_0_8
  have c0_1_9 : w9.cell? ⟨w.heap.size, 1, none⟩ = some (.int .u64 al) := by rw [(bcell st9).1 _ _ (by omega)]; exact c0_1_8
  have c1_0_9 : w9.cell? ⟨w3.heap.size, 0, none⟩ = some (.int .u64 rh) := by rw [(bcell st9).1 _ _ (by omega)]; exact c1_0_8
  have c1_1_9 : w9.cell? ⟨w3.heap.size, 1, none⟩ = some (.int .u64 rl) := by rw [(bcell st9).1 _ _ (by omega)]; exact c1_1_8
  have z0_9 : w.heap.size < w9.heap.size := by omega
  have z1_9 : w3.heap.size < w9.heap.size := by omega
  clear c0_0_8 c0_1_8 c1_0_8 c1_1_8
  have hs1 := hs1.on st9
  clear hb9 st9 hB8
  go_wp2_with fail
  refine (root_any ah al H1.out H2.out _).mono ?_
  rintro e w10 ⟨r, ro, rfl, hr1, hr2, hr3, hr4, hb10⟩
  have hr1 := Lib.hid hr1
  have hr2 := Lib.hid hr2
  have hr3 := Lib.hid hr3
  have hr4 := Lib.hid hr4
  have st10 : Below w9.heap.size w9 w10 := by first | exact hb10 | exact (below_new _ _).trans (hb10.mono (by simp)) | exact ((below_new _ _).alloc (by simp) _).trans (hb10.mono (by simp; omega))
  have sz10 := hb10.size; try simp at sz10
  have hB10 : Below w.heap.size w w10 := hB9.trans (st10.mono hB9.size)
  have y10 : w.heap.size ≤ w10.heap.size := hB10.size
  have c0_0_10 : w10.cell? ⟨w.heap.size, 0, none⟩ = some (.int .u64 ah) := by rw [(bcell st10).1 _ _ (by omega)]; exact c0_0_9
  have c0_1_10 : w10.cell? ⟨w.heap.size, 1, none⟩ = some (.int .u64 al) := by rw [(bcell st10).1 _ _ (by omega)]; exact c0_1_9
  have c1_0_10 : w10.cell? ⟨w3.heap.size, 0, none⟩ = some (.int .u64 rh) := by rw [(bcell st10).1 _ _ (by omega)]; exact c1_0_9
  have c1_1_10 : w10.cell? ⟨w3.heap.size, 1, none⟩ = some (.int .u64 rl) := by rw [(bcell st10).1 _ _ (by omega)]; exact c1_1_9
  have z2_10 : w9.heap.size < w10.heap.size := by omega
  have c2_0_10 : w10.cell? ⟨w9.heap.size, 0, none⟩ = some (.int .u64 0) := by rw [(bcell hb10).1 _ _ (by first | (simp; done) | (simp; omega) | omega)]; simp [go_sem]
  have c2_1_10 : w10.cell? ⟨w9.heap.size, 1, none⟩ = some (.int .u64 0) := by rw [(bcell hb10).1 _ _ (by first | (simp; done) | (simp; omega) | omega)]; simp [go_sem]
  have z0_10 : w.heap.size < w10.heap.size := by omega
  have z1_10 : w3.heap.size < w10.heap.size := by omega
  clear c0_0_9 c0_1_9 c1_0_9 c1_1_9
  have hs1 := hs1.on st10
  clear hb10 st10 hB9
  go_wp2_with fail
  refine (rroot_any A1 k1 c1 l1 _ hs1 n1b (by rw [hv1.out]; exact Va.out.2)).mono ?_
  rintro e w11 ⟨r2, rfl, ht1, ht2, ht3, hb11⟩
  have st11 : Below w10.heap.size w10 w11 := by first | exact hb11 | exact (below_new _ _).trans (hb11.mono (by simp)) | exact ((below_new _ _).alloc (by simp) _).trans (hb11.mono (by simp; omega))
  have sz11 := hb11.size; try simp at sz11
  have hB11 : Below w.heap.size w w11 := hB10.trans (st11.mono hB10.size)
  have y11 : w.heap.size ≤ w11.heap.size := hB11.size
  have c0_0_11 : w11.cell? ⟨w.heap.size, 0, none⟩ = some (.int .u64 ah) := by rw [(bcell st11).1 _ _ (by omega)]; exact c0_0_10
  have c0_1_11 : w11.cell? ⟨w.heap.size, 1, none⟩ = some (.int .u64 al) := by rw [(bcell st11).1 _ _ (by omega)]; exact c0_1_10
  have c1_0_11 : w11.cell? ⟨w3.heap.size, 0, none⟩ = some (.int .u64 rh) := by rw [(bcell st11).1 _ _ (by omega)]; exact c1_0_10
  have c1_1_11 : w11.cell? ⟨w3.heap.size, 1, none⟩ = some (.int .u64 rl) := by rw [(bcell st11).1 _ _ (by omega)]; exact c1_1_10
  have c2_0_11 : w11.cell? ⟨w9.heap.size, 0, none⟩ = some (.int .u64 0) := by rw [(bcell st11).1 _ _ (by omega)]; exact c2_0_10
  have c2_1_11 : w11.cell? ⟨w9.heap.size, 1, none⟩ = some (.int .u64 0) := by rw [(bcell st11).1 _ _ (by omega)]; exact c2_1_10
  have z0_11 : w.heap.size < w11.heap.size := by omega
  have z1_11 : w3.heap.size < w11.heap.size := by omega
  have z2_11 : w9.heap.size < w11.heap.size := by omega
  clear c0_0_10 c0_1_10 c1_0_10 c1_1_10 c2_0_10 c2_1_10
  have hs1 := hs1.on st11
  clear hb11 st11 hB10
  rw [hv1.out] at ht2 ht3
  obtain rfl : r2 = r := rroot_unique ht1.1 hr1.out.1 ht2 ht3 hr2.out hr3.out
  clear ht1 ht2 ht3
  go_wp2_with fail
  refine (rnat_any 0 0 r2 (by decide) (by decide) hr1.out _).mono ?_
  rintro e w12 ⟨A7, k7, c7, l7, rfl, hs7, hn7, hv7, _, hb12⟩
  have hn7 := Lib.hid hn7
  have st12 : Below w11.heap.size w11 w12 := by first | exact hb12 | exact (below_new _ _).trans (hb12.mono (by simp)) | exact ((below_new _ _).alloc (by simp) _).trans (hb12.mono (by simp; omega))
  have sz12 := hb12.size; try simp at sz12
  have hB12 : Below w.heap.size w w12 := hB11.trans (st12.mono hB11.size)
  have y12 : w.heap.size ≤ w12.heap.size := hB12.size
  have c0_0_12 : w12.cell? ⟨w.heap.size, 0, none⟩ = some (.int .u64 ah) := by rw [(bcell st12).1 _ _ (by omega)]; exact c0_0_11
  have c0_1_12 : w12.cell? ⟨w.heap.size, 1, none⟩ = some (.int .u64 al) := by rw [(bcell st12).1 _ _ (by omega)]; exact c0_1_11
  have c1_0_12 : w12.cell? ⟨w3.heap.size, 0, none⟩ = some (.int .u64 rh) := by rw [(bcell st12).1 _ _ (by omega)]; exact c1_0_11
  have c1_1_12 : w12.cell? ⟨w3.heap.size, 1, none⟩ = some (.int .u64 rl) := by rw [(bcell st12).1 _ _ (by omega)]; exact c1_1_11
  have c2_0_12 : w12.cell? ⟨w9.heap.size, 0, none⟩ = some (.int .u64 0) := by rw [(bcell st12).1 _ _ (by omega)]; exact c2_0_11
  have c2_1_12 : w12.cell? ⟨w9.heap.size, 1, none⟩ = some (.int .u64 0) := by rw [(bcell st12).1 _ _ (by omega)]; exact c2_1_11
  have z0_12 : w.heap.size < w12.heap.size := by omega
  have z1_12 : w3.heap.size < w12.heap.size := by omega
  have z2_12 : w9.heap.size < w12.heap.size := by omega
  clear c0_0_11 c0_1_11 c1_0_11 c1_1_11 c2_0_11 c2_1_11
  have hs1 := hs1.on st12
  clear hb12 st12 hB11
  have k7b : k7 ≤ 8 := hs7.small hn7.out (by rw [hv7, val3_lo]; have := hr1.out.2; omega)
  have hv7 := Lib.hid (hv7.trans val3_lo)
  go_wp2_with fail
  refine (rtimes_any A7 A7 k7 k7 c7 c7 l7 l7 _ hs7 hs7 (by omega) (by omega)).mono ?_
  rintro e w13 ⟨A8, k8, c8, l8, rfl, hs8, hn8, hv8, _, hb13⟩
  have hn8 := Lib.hid hn8
  have st13 : Below w12.heap.size w12 w13 := by first | exact hb13 | exact (below_new _ _).trans (hb13.mono (by simp)) | exact ((below_new _ _).alloc (by simp) _).trans (hb13.mono (by simp; omega))
  have sz13 := hb13.size; try simp at sz13
  have hB13 : Below w.heap.size w w13 := hB12.trans (st13.mono hB12.size)
  have y13 : w.heap.size ≤ w13.heap.size := hB13.size
  have c0_0_13 : w13.cell? ⟨w.heap.size, 0, none⟩ = some (.int .u64 ah) := by rw [(bcell st13).1 _ _ (by omega)]; exact c0_0_12
  have c0_1_13 : w13.cell? ⟨w.heap.size, 1, none⟩ = some (.int .u64 al) := by rw [(bcell st13).1 _ _ (by omega)]; exact c0_1_12
  have c1_0_13 : w13.cell? ⟨w3.heap.size, 0, none⟩ = some (.int .u64 rh) := by rw [(bcell st13).1 _ _ (by omega)]; exact c1_0_12
  have c1_1_13 : w13.cell? ⟨w3.heap.size, 1, none⟩ = some (.int .u64 rl) := by rw [(bcell st13).1 _ _ (by omega)]; exact c1_1_12
  have c2_0_13 : w13.cell? ⟨w9.heap.size, 0, none⟩ = some (.int .u64 0) := by rw [(bcell st13).1 _ _ (by omega)]; exact c2_0_12
  have c2_1_13 : w13.cell? ⟨w9.heap.size, 1, none⟩ = some (.int .u64 0) := by rw [(bcell st13).1 _ _ (by omega)]; exact c2_1_12
  have z0_13 : w.heap.size < w13.heap.size := by omega
  have z1_13 : w3.heap.size < w13.heap.size := by omega
  have z2_13 : w9.heap.size < w13.heap.size := by omega
  clear c0_0_12 c0_1_12 c1_0_12 c1_1_12 c2_0_12 c2_1_12
  have hs1 := hs1.on st13
  have hs7 := hs7.on st13
  clear hb13 st13 hB12
  have k8b : k8 ≤ 8 := hs8.small hn8.out (by rw [hv8, hv7.out]; have := (mul_bd _ _ hr1.out hr1.out).2; omega)
  rw [hv7.out] at hv8
  have hv8 := Lib.hid hv8
  go_wp2_with fail
  refine (rcmp_any A8 A1 k8 k1 c8 c1 l8 l1 _ hs8 hs1 (by omega) (by omega)).mono ?_
  rintro e w14 ⟨rfl, hb14⟩
  have st14 : Below w13.heap.size w13 w14 := by first | exact hb14 | exact (below_new _ _).trans (hb14.mono (by simp)) | exact ((below_new _ _).alloc (by simp) _).trans (hb14.mono (by simp; omega))
  have sz14 := hb14.size; try simp at sz14
  have hB14 : Below w.heap.size w w14 := hB13.trans (st14.mono hB13.size)
  have y14 : w.heap.size ≤ w14.heap.size := hB14.size
  have c0_0_14 : w14.cell? ⟨w.heap.size, 0, none⟩ = some (.int .u64 ah) := by rw [(bcell st14).1 _ _ (by omega)]; exact c0_0_13
  have c0_1_14 : w14.cell? ⟨w.heap.size, 1, none⟩ = some (.int .u64 al) := by rw [(bcell st14).1 _ _ (by omega)]; exact c0_1_13
  have c1_0_14 : w14.cell? ⟨w3.heap.size, 0, none⟩ = some (.int .u64 rh) := by rw [(bcell st14).1 _ _ (by omega)]; exact c1_0_13
  have c1_1_14 : w14.cell? ⟨w3.heap.size, 1, none⟩ = some (.int .u64 rl) := by rw [(bcell st14).1 _ _ (by omega)]; exact c1_1_13
  have c2_0_14 : w14.cell? ⟨w9.heap.size, 0, none⟩ = some (.int .u64 0) := by rw [(bcell st14).1 _ _ (by omega)]; exact c2_0_13
  have c2_1_14 : w14.cell? ⟨w9.heap.size, 1, none⟩ = some (.int .u64 0) := by rw [(bcell st14).1 _ _ (by omega)]; exact c2_1_13
  have z0_14 : w.heap.size < w14.heap.size := by omega
  have z1_14 : w3.heap.size < w14.heap.size := by omega
  have z2_14 : w9.heap.size < w14.heap.size := by omega
  clear c0_0_13 c0_1_13 c1_0_13 c1_1_13 c2_0_13 c2_1_13
  have hs1 := hs1.on st14
  have hs7 := hs7.on st14
  have hs8 := hs8.on st14
  clear hb14 st14 hB13
  have hz := cmp_zero hr4.out
  rw [hv8.out, hv1.out]
  obtain ⟨cr, hcr⟩ : ∃ cr, cmpI (r2 * r2) (val ah al) = cr := ⟨_, rfl⟩
  rw [hcr] at hz ⊢
  clear hcr
  go_wp2
  go_ret
  exact ⟨by simp, hB14⟩

set_option maxRecDepth 100000 in
set_option maxHeartbeats 8000000 in
theorem shifts_pos (ah al b n : Int) (h1 : Word ah) (h2 : Word al) (h3 : Word b) (hb : 0 < b) (_n0 : -9223372036854775808 ≤ n) (n1 : n ≤ 9223372036854775807) (w : World) :
    Calls Try.prog 4 #[.agg #[.int .u64 ah, .int .u64 al], .int .u64 b, .int .i64 n] w (TruePost w) := by
  have H1 := Lib.hid h1; have H2 := Lib.hid h2; have H3 := Lib.hid h3
  have Va := Lib.hid (val_nonneg h1 h2)
  clear h1 h2 h3
  have bz : (b == 0) = false := by simp; omega
  go_enter Try.func4, Try.ntmps4
  go_wp2_with fail
  refine (shown_any _).mono ?_
  rintro e w1 ⟨rfl, hb1⟩
  have st1 : Below w.heap.size w w1 := by first | exact hb1 | exact (below_new _ _).trans (hb1.mono (by simp)) | exact ((below_new _ _).alloc (by simp) _).trans (hb1.mono (by simp; omega))
  have sz1 := hb1.size; try simp at sz1
  have hB1 := st1
  have y1 : w.heap.size ≤ w1.heap.size := hB1.size
  have z0_1 : w.heap.size < w1.heap.size := by omega
  have c0_0_1 : w1.cell? ⟨w.heap.size, 0, none⟩ = some (.int .u64 ah) := by rw [(bcell hb1).1 _ _ (by first | (simp; done) | (simp; omega) | omega)]; simp [go_sem]
  have c0_1_1 : w1.cell? ⟨w.heap.size, 1, none⟩ = some (.int .u64 al) := by rw [(bcell hb1).1 _ _ (by first | (simp; done) | (simp; omega) | omega)]; simp [go_sem]
  clear hb1 st1
  go_wp2_with fail
  refine (lnat_any ah al H1.out H2.out _).mono ?_
  rintro e w2 ⟨A1, k1, c1, l1, rfl, hs1, hn1, hv1, _, hb2⟩
  have st2 : Below w1.heap.size w1 w2 := by first | exact hb2 | exact (below_new _ _).trans (hb2.mono (by simp)) | exact ((below_new _ _).alloc (by simp) _).trans (hb2.mono (by simp; omega))
  have sz2 := hb2.size; try simp at sz2
  have hB2 : Below w.heap.size w w2 := hB1.trans (st2.mono hB1.size)
  have y2 : w.heap.size ≤ w2.heap.size := hB2.size
  have c0_0_2 : w2.cell? ⟨w.heap.size, 0, none⟩ = some (.int .u64 ah) := by rw [(bcell st2).1 _ _ (by omega)]; exact c0_0_1
  have c0_1_2 : w2.cell? ⟨w.heap.size, 1, none⟩ = some (.int .u64 al) := by rw [(bcell st2).1 _ _ (by omega)]; exact c0_1_1
  have z0_2 : w.heap.size < w2.heap.size := by omega
  clear c0_0_1 c0_1_1
  clear hb2 st2 hB1
  have n1b : k1 ≤ 8 := hs1.small hn1 (by rw [hv1]; have := Va.out.2; omega)
  have hv1 := Lib.hid hv1; have hn1 := Lib.hid hn1
  go_wp2_with fail
  refine (shr_any ah al n H1.out H2.out n1 _).mono ?_
  rintro e w3 ⟨rh, rl, lo, rfl, hw1, hw2, hrv, hro, hb3⟩
  have hw1 := Lib.hid hw1
  have hw2 := Lib.hid hw2
  have hrv := Lib.hid hrv
  have hro := Lib.hid hro
  have st3 : Below w2.heap.size w2 w3 := by first | exact hb3 | exact (below_new _ _).trans (hb3.mono (by simp)) | exact ((below_new _ _).alloc (by simp) _).trans (hb3.mono (by simp; omega))
  have sz3 := hb3.size; try simp at sz3
  have hB3 : Below w.heap.size w w3 := hB2.trans (st3.mono hB2.size)
  have y3 : w.heap.size ≤ w3.heap.size := hB3.size
  have c0_0_3 : w3.cell? ⟨w.heap.size, 0, none⟩ = some (.int .u64 ah) := by rw [(bcell st3).1 _ _ (by omega)]; exact c0_0_2
  have c0_1_3 : w3.cell? ⟨w.heap.size, 1, none⟩ = some (.int .u64 al) := by rw [(bcell st3).1 _ _ (by omega)]; exact c0_1_2
  have z0_3 : w.heap.size < w3.heap.size := by omega
  clear c0_0_2 c0_1_2
  have hs1 := hs1.on st3
  clear hb3 st3 hB2
  go_wp2_with fail
  refine (r2shr_any A1 k1 c1 l1 n _ (hs1.on (below_new _ _)) (by omega) n1).mono ?_
  rintro e w4 ⟨A2, k2, c2, l2, lo2, rfl, hs2, hn2, hp2, hb4⟩
  have hn2 := Lib.hid hn2
  have st4 : Below w3.heap.size w3 w4 := by first | exact hb4 | exact (below_new _ _).trans (hb4.mono (by simp)) | exact ((below_new _ _).alloc (by simp) _).trans (hb4.mono (by simp; omega))
  have sz4 := hb4.size; try simp at sz4
  have hB4 : Below w.heap.size w w4 := hB3.trans (st4.mono hB3.size)
  have y4 : w.heap.size ≤ w4.heap.size := hB4.size
  have c0_0_4 : w4.cell? ⟨w.heap.size, 0, none⟩ = some (.int .u64 ah) := by rw [(bcell st4).1 _ _ (by omega)]; exact c0_0_3
  have c0_1_4 : w4.cell? ⟨w.heap.size, 1, none⟩ = some (.int .u64 al) := by rw [(bcell st4).1 _ _ (by omega)]; exact c0_1_3
  have z1_4 : w3.heap.size < w4.heap.size := by omega
  have c1_0_4 : w4.cell? ⟨w3.heap.size, 0, none⟩ = some (.int .u64 rh) := by rw [(bcell hb4).1 _ _ (by first | (simp; done) | (simp; omega) | omega)]; simp [go_sem]
  have c1_1_4 : w4.cell? ⟨w3.heap.size, 1, none⟩ = some (.int .u64 rl) := by rw [(bcell hb4).1 _ _ (by first | (simp; done) | (simp; omega) | omega)]; simp [go_sem]
  have z0_4 : w.heap.size < w4.heap.size := by omega
  clear c0_0_3 c0_1_3
  have hs1 := hs1.on st4
  clear hb4 st4 hB3
  obtain ⟨e2, e3⟩ := hp2
  rw [hv1.out] at e2 e3
  obtain rfl : lo2 = lo := by rw [e3]; exact bool_dec hro.out
  have e2 := Lib.hid e2; clear e3 hro
  go_wp2_with fail
  refine (shl_any ah al n H1.out H2.out n1 _).mono ?_
  rintro e w5 ⟨sh, sl, rfl, hw3, hw4, hsv, hb5⟩
  have hw3 := Lib.hid hw3
  have hw4 := Lib.hid hw4
  have hsv := Lib.hid hsv
  have st5 : Below w4.heap.size w4 w5 := by first | exact hb5 | exact (below_new _ _).trans (hb5.mono (by simp)) | exact ((below_new _ _).alloc (by simp) _).trans (hb5.mono (by simp; omega))
  have sz5 := hb5.size; try simp at sz5
  have hB5 : Below w.heap.size w w5 := hB4.trans (st5.mono hB4.size)
  have y5 : w.heap.size ≤ w5.heap.size := hB5.size
  have c0_0_5 : w5.cell? ⟨w.heap.size, 0, none⟩ = some (.int .u64 ah) := by rw [(bcell st5).1 _ _ (by omega)]; exact c0_0_4
  have c0_1_5 : w5.cell? ⟨w.heap.size, 1, none⟩ = some (.int .u64 al) := by rw [(bcell st5).1 _ _ (by omega)]; exact c0_1_4
  have c1_0_5 : w5.cell? ⟨w3.heap.size, 0, none⟩ = some (.int .u64 rh) := by rw [(bcell st5).1 _ _ (by omega)]; exact c1_0_4
  have c1_1_5 : w5.cell? ⟨w3.heap.size, 1, none⟩ = some (.int .u64 rl) := by rw [(bcell st5).1 _ _ (by omega)]; exact c1_1_4
  have z0_5 : w.heap.size < w5.heap.size := by omega
  have z1_5 : w3.heap.size < w5.heap.size := by omega
  clear c0_0_4 c0_1_4 c1_0_4 c1_1_4
  have hs1 := hs1.on st5
  have hs2 := hs2.on st5
  clear hb5 st5 hB4
  go_wp2_with fail
  refine (r2shl_any A1 k1 c1 l1 n _ hs1 n1b).mono ?_
  rintro e w6 ⟨A3, k3, c3, l3, rfl, hs3, hn3, hv3, _, hb6⟩
  have hn3 := Lib.hid hn3
  have st6 : Below w5.heap.size w5 w6 := by first | exact hb6 | exact (below_new _ _).trans (hb6.mono (by simp)) | exact ((below_new _ _).alloc (by simp) _).trans (hb6.mono (by simp; omega))
  have sz6 := hb6.size; try simp at sz6
  have hB6 : Below w.heap.size w w6 := hB5.trans (st6.mono hB5.size)
  have y6 : w.heap.size ≤ w6.heap.size := hB6.size
  have c0_0_6 : w6.cell? ⟨w.heap.size, 0, none⟩ = some (.int .u64 ah) := by rw [(bcell st6).1 _ _ (by omega)]; exact c0_0_5
  have c0_1_6 : w6.cell? ⟨w.heap.size, 1, none⟩ = some (.int .u64 al) := by rw [(bcell st6).1 _ _ (by omega)]; exact c0_1_5
  have c1_0_6 : w6.cell? ⟨w3.heap.size, 0, none⟩ = some (.int .u64 rh) := by rw [(bcell st6).1 _ _ (by omega)]; exact c1_0_5
  have c1_1_6 : w6.cell? ⟨w3.heap.size, 1, none⟩ = some (.int .u64 rl) := by rw [(bcell st6).1 _ _ (by omega)]; exact c1_1_5
  have z0_6 : w.heap.size < w6.heap.size := by omega
  have z1_6 : w3.heap.size < w6.heap.size := by omega
  clear c0_0_5 c0_1_5 c1_0_5 c1_1_5
  have hs1 := hs1.on st6
  have hs2 := hs2.on st6
  clear hb6 st6 hB5
  rw [hv1.out] at hv3
  have hv3 := Lib.hid hv3
  go_wp2_with fail
  refine (is_true A3 k3 c3 l3 sh sl _ hs3 hn3.out hw3.out hw4.out (by rw [hv3.out, hsv.out])).mono ?_
  rintro e w7 ⟨rfl, hb7⟩
  have st7 : Below w6.heap.size w6 w7 := by first | exact hb7 | exact (below_new _ _).trans (hb7.mono (by simp)) | exact ((below_new _ _).alloc (by simp) _).trans (hb7.mono (by simp; omega))
  have sz7 := hb7.size; try simp at sz7
  have hB7 : Below w.heap.size w w7 := hB6.trans (st7.mono hB6.size)
  have y7 : w.heap.size ≤ w7.heap.size := hB7.size
  have c0_0_7 : w7.cell? ⟨w.heap.size, 0, none⟩ = some (.int .u64 ah) := by rw [(bcell st7).1 _ _ (by omega)]; exact c0_0_6
  have c0_1_7 : w7.cell? ⟨w.heap.size, 1, none⟩ = some (.int .u64 al) := by rw [(bcell st7).1 _ _ (by omega)]; exact c0_1_6
  have c1_0_7 : w7.cell? ⟨w3.heap.size, 0, none⟩ = some (.int .u64 rh) := by rw [(bcell st7).1 _ _ (by omega)]; exact c1_0_6
  have c1_1_7 : w7.cell? ⟨w3.heap.size, 1, none⟩ = some (.int .u64 rl) := by rw [(bcell st7).1 _ _ (by omega)]; exact c1_1_6
  have z0_7 : w.heap.size < w7.heap.size := by omega
  have z1_7 : w3.heap.size < w7.heap.size := by omega
  clear c0_0_6 c0_1_6 c1_0_6 c1_1_6
  have hs1 := hs1.on st7
  have hs2 := hs2.on st7
  have hs3 := hs3.on st7
  clear hb7 st7 hB6
  clear hs3
  go_wp2_with fail
  refine (is_true A2 k2 c2 l2 rh rl _ hs2 hn2.out hw1.out hw2.out (by rw [e2.out, hrv.out])).mono ?_
  rintro e w8 ⟨rfl, hb8⟩
  have st8 : Below w7.heap.size w7 w8 := by first | exact hb8 | exact (below_new _ _).trans (hb8.mono (by simp)) | exact ((below_new _ _).alloc (by simp) _).trans (hb8.mono (by simp; omega))
  have sz8 := hb8.size; try simp at sz8
  have hB8 : Below w.heap.size w w8 := hB7.trans (st8.mono hB7.size)
  have y8 : w.heap.size ≤ w8.heap.size := hB8.size
  have c0_0_8 : w8.cell? ⟨w.heap.size, 0, none⟩ = some (.int .u64 ah) := by rw [(bcell st8).1 _ _ (by omega)]; exact c0_0_7
  have c0_1_8 : w8.cell? ⟨w.heap.size, 1, none⟩ = some (.int .u64 al) := by rw [(bcell st8).1 _ _ (by omega)]; exact c0_1_7
  have c1_0_8 : w8.cell? ⟨w3.heap.size, 0, none⟩ = some (.int .u64 rh) := by rw [(bcell st8).1 _ _ (by omega)]; exact c1_0_7
  have c1_1_8 : w8.cell? ⟨w3.heap.size, 1, none⟩ = some (.int .u64 rl) := by rw [(bcell st8).1 _ _ (by omega)]; exact c1_1_7
  have z0_8 : w.heap.size < w8.heap.size := by omega
  have z1_8 : w3.heap.size < w8.heap.size := by omega
  clear c0_0_7 c0_1_7 c1_0_7 c1_1_7
  have hs1 := hs1.on st8
  have hs2 := hs2.on st8
  clear hb8 st8 hB7
  clear hs2
  go_wp2_with fail
  refine (div_any ah al b H1.out H2.out H3.out hb _).mono ?_
  rintro e w9 ⟨qh, ql, m, rfl, hw5, hw6, hw7, hqv, hmv, hb9⟩
  have hw5 := Lib.hid hw5
  have hw6 := Lib.hid hw6
  have hw7 := Lib.hid hw7
  have hqv := Lib.hid hqv
  have hmv := Lib.hid hmv
  have st9 : Below w8.heap.size w8 w9 := by first | exact hb9 | exact (below_new _ _).trans (hb9.mono (by simp)) | exact ((below_new _ _).alloc (by simp) _).trans (hb9.mono (by simp; omega))
  have sz9 := hb9.size; try simp at sz9
  have hB9 : Below w.heap.size w w9 := hB8.trans (st9.mono hB8.size)
  have y9 : w.heap.size ≤ w9.heap.size := hB9.size
  have c0_0_9 : w9.cell? ⟨w.heap.size, 0, none⟩ = some (.int .u64 ah) := by rw [(bcell st9).1 _ _ (by omega)]; exact c0_0_8
  have c0_1_9 : w9.cell? ⟨w.heap.size, 1, none⟩ = some (.int .u64 al) := by rw [(bcell st9).1 _ _ (by omega)]; exact c0_1_8
  have c1_0_9 : w9.cell? ⟨w3.heap.size, 0, none⟩ = some (.int .u64 rh) := by rw [(bcell st9).1 _ _ (by omega)]; exact c1_0_8
  have c1_1_9 : w9.cell? ⟨w3.heap.size, 1, none⟩ = some (.int .u64 rl) := by rw [(bcell st9).1 _ _ (by omega)]; exact c1_1_8
  have z0_9 : w.heap.size < w9.heap.size := by omega
  have z1_9 : w3.heap.size < w9.heap.size := by omega
  clear c0_0_8 c0_1_8 c1_0_8 c1_1_8
  have hs1 := hs1.on st9
  clear hb9 st9 hB8
  go_wp2_with fail
  refine (rnat_any 0 0 b (by decide) (by decide) H3.out _).mono ?_
  rintro e w10 ⟨A4, k4, c4, l4, rfl, hs4, hn4, hv4, _, hb10⟩
  have hn4 := Lib.hid hn4
  have st10 : Below w9.heap.size w9 w10 := by first | exact hb10 | exact (below_new _ _).trans (hb10.mono (by simp)) | exact ((below_new _ _).alloc (by simp) _).trans (hb10.mono (by simp; omega))
  have sz10 := hb10.size; try simp at sz10
  have hB10 : Below w.heap.size w w10 := hB9.trans (st10.mono hB9.size)
  have y10 : w.heap.size ≤ w10.heap.size := hB10.size
  have c0_0_10 : w10.cell? ⟨w.heap.size, 0, none⟩ = some (.int .u64 ah) := by rw [(bcell st10).1 _ _ (by omega)]; exact c0_0_9
  have c0_1_10 : w10.cell? ⟨w.heap.size, 1, none⟩ = some (.int .u64 al) := by rw [(bcell st10).1 _ _ (by omega)]; exact c0_1_9
  have c1_0_10 : w10.cell? ⟨w3.heap.size, 0, none⟩ = some (.int .u64 rh) := by rw [(bcell st10).1 _ _ (by omega)]; exact c1_0_9
  have c1_1_10 : w10.cell? ⟨w3.heap.size, 1, none⟩ = some (.int .u64 rl) := by rw [(bcell st10).1 _ _ (by omega)]; exact c1_1_9
  have z2_10 : w9.heap.size < w10.heap.size := by omega
  have c2_0_10 : w10.cell? ⟨w9.heap.size, 0, none⟩ = some (.int .u64 qh) := by rw [(bcell hb10).1 _ _ (by first | (simp; done) | (simp; omega) | omega)]; simp [go_sem]
  have c2_1_10 : w10.cell? ⟨w9.heap.size, 1, none⟩ = some (.int .u64 ql) := by rw [(bcell hb10).1 _ _ (by first | (simp; done) | (simp; omega) | omega)]; simp [go_sem]
  have z0_10 : w.heap.size < w10.heap.size := by omega
  have z1_10 : w3.heap.size < w10.heap.size := by omega
  clear c0_0_9 c0_1_9 c1_0_9 c1_1_9
  have hs1 := hs1.on st10
  clear hb10 st10 hB9
  have k4b : k4 ≤ 8 := hs4.small hn4.out (by rw [hv4, val3_lo]; have := H3.out.2; omega)
  have hv4 := Lib.hid (hv4.trans val3_lo)
  go_wp2_with fail
  refine (rparts_any A1 A4 k1 k4 c1 c4 l1 l4 _ hs1 hs4 (by omega) (by omega) (by rw [hv4.out]; exact hb)).mono ?_
  rintro e w11 ⟨A5, k5, c5, l5, A6, k6, c6, l6, rfl, hs5, hn5, hv5, hs6, hn6, hv6, hb11⟩
  have hn5 := Lib.hid hn5
  have hn6 := Lib.hid hn6
  have st11 : Below w10.heap.size w10 w11 := by first | exact hb11 | exact (below_new _ _).trans (hb11.mono (by simp)) | exact ((below_new _ _).alloc (by simp) _).trans (hb11.mono (by simp; omega))
  have sz11 := hb11.size; try simp at sz11
  have hB11 : Below w.heap.size w w11 := hB10.trans (st11.mono hB10.size)
  have y11 : w.heap.size ≤ w11.heap.size := hB11.size
  have c0_0_11 : w11.cell? ⟨w.heap.size, 0, none⟩ = some (.int .u64 ah) := by rw [(bcell st11).1 _ _ (by omega)]; exact c0_0_10
  have c0_1_11 : w11.cell? ⟨w.heap.size, 1, none⟩ = some (.int .u64 al) := by rw [(bcell st11).1 _ _ (by omega)]; exact c0_1_10
  have c1_0_11 : w11.cell? ⟨w3.heap.size, 0, none⟩ = some (.int .u64 rh) := by rw [(bcell st11).1 _ _ (by omega)]; exact c1_0_10
  have c1_1_11 : w11.cell? ⟨w3.heap.size, 1, none⟩ = some (.int .u64 rl) := by rw [(bcell st11).1 _ _ (by omega)]; exact c1_1_10
  have c2_0_11 : w11.cell? ⟨w9.heap.size, 0, none⟩ = some (.int .u64 qh) := by rw [(bcell st11).1 _ _ (by omega)]; exact c2_0_10
  have c2_1_11 : w11.cell? ⟨w9.heap.size, 1, none⟩ = some (.int .u64 ql) := by rw [(bcell st11).1 _ _ (by omega)]; exact c2_1_10
  have z0_11 : w.heap.size < w11.heap.size := by omega
  have z1_11 : w3.heap.size < w11.heap.size := by omega
  have z2_11 : w9.heap.size < w11.heap.size := by omega
  clear c0_0_10 c0_1_10 c1_0_10 c1_1_10 c2_0_10 c2_1_10
  have hs1 := hs1.on st11
  have hs4 := hs4.on st11
  clear hb11 st11 hB10
  rw [hv1.out, hv4.out] at hv5 hv6
  have hv5 := Lib.hid hv5; have hv6 := Lib.hid hv6
  clear hs4
  go_wp2_with fail
  refine (is_true A5 k5 c5 l5 qh ql _ hs5 hn5.out hw5.out hw6.out (by rw [hv5.out, hqv.out])).mono ?_
  rintro e w12 ⟨rfl, hb12⟩
  have st12 : Below w11.heap.size w11 w12 := by first | exact hb12 | exact (below_new _ _).trans (hb12.mono (by simp)) | exact ((below_new _ _).alloc (by simp) _).trans (hb12.mono (by simp; omega))
  have sz12 := hb12.size; try simp at sz12
  have hB12 : Below w.heap.size w w12 := hB11.trans (st12.mono hB11.size)
  have y12 : w.heap.size ≤ w12.heap.size := hB12.size
  have c0_0_12 : w12.cell? ⟨w.heap.size, 0, none⟩ = some (.int .u64 ah) := by rw [(bcell st12).1 _ _ (by omega)]; exact c0_0_11
  have c0_1_12 : w12.cell? ⟨w.heap.size, 1, none⟩ = some (.int .u64 al) := by rw [(bcell st12).1 _ _ (by omega)]; exact c0_1_11
  have c1_0_12 : w12.cell? ⟨w3.heap.size, 0, none⟩ = some (.int .u64 rh) := by rw [(bcell st12).1 _ _ (by omega)]; exact c1_0_11
  have c1_1_12 : w12.cell? ⟨w3.heap.size, 1, none⟩ = some (.int .u64 rl) := by rw [(bcell st12).1 _ _ (by omega)]; exact c1_1_11
  have c2_0_12 : w12.cell? ⟨w9.heap.size, 0, none⟩ = some (.int .u64 qh) := by rw [(bcell st12).1 _ _ (by omega)]; exact c2_0_11
  have c2_1_12 : w12.cell? ⟨w9.heap.size, 1, none⟩ = some (.int .u64 ql) := by rw [(bcell st12).1 _ _ (by omega)]; exact c2_1_11
  have z0_12 : w.heap.size < w12.heap.size := by omega
  have z1_12 : w3.heap.size < w12.heap.size := by omega
  have z2_12 : w9.heap.size < w12.heap.size := by omega
  clear c0_0_11 c0_1_11 c1_0_11 c1_1_11 c2_0_11 c2_1_11
  have hs1 := hs1.on st12
  have hs5 := hs5.on st12
  have hs6 := hs6.on st12
  clear hb12 st12 hB11
  clear hs5
  go_wp2_with fail
  refine (part_any A6 k6 c6 l6 0 m _ hs6 (by omega) (part_lo (natV_nonneg hs6.lim) (by rw [hv6.out, ← hmv.out]; exact hw7.out.2) (by rw [hv6.out, hmv.out]))).mono ?_
  rintro e wq ⟨rfl, rfl⟩
  clear hs6
  go_wp2_with fail
  refine (root_any ah al H1.out H2.out _).mono ?_
  rintro e w13 ⟨r, ro, rfl, hr1, hr2, hr3, hr4, hb13⟩
  have hr1 := Lib.hid hr1
  have hr2 := Lib.hid hr2
  have hr3 := Lib.hid hr3
  have hr4 := Lib.hid hr4
  have st13 : Below w12.heap.size w12 w13 := by first | exact hb13 | exact (below_new _ _).trans (hb13.mono (by simp)) | exact ((below_new _ _).alloc (by simp) _).trans (hb13.mono (by simp; omega))
  have sz13 := hb13.size; try simp at sz13
  have hB13 : Below w.heap.size w w13 := hB12.trans (st13.mono hB12.size)
  have y13 : w.heap.size ≤ w13.heap.size := hB13.size
  have c0_0_13 : w13.cell? ⟨w.heap.size, 0, none⟩ = some (.int .u64 ah) := by rw [(bcell st13).1 _ _ (by omega)]; exact c0_0_12
  have c0_1_13 : w13.cell? ⟨w.heap.size, 1, none⟩ = some (.int .u64 al) := by rw [(bcell st13).1 _ _ (by omega)]; exact c0_1_12
  have c1_0_13 : w13.cell? ⟨w3.heap.size, 0, none⟩ = some (.int .u64 rh) := by rw [(bcell st13).1 _ _ (by omega)]; exact c1_0_12
  have c1_1_13 : w13.cell? ⟨w3.heap.size, 1, none⟩ = some (.int .u64 rl) := by rw [(bcell st13).1 _ _ (by omega)]; exact c1_1_12
  have c2_0_13 : w13.cell? ⟨w9.heap.size, 0, none⟩ = some (.int .u64 qh) := by rw [(bcell st13).1 _ _ (by omega)]; exact c2_0_12
  have c2_1_13 : w13.cell? ⟨w9.heap.size, 1, none⟩ = some (.int .u64 ql) := by rw [(bcell st13).1 _ _ (by omega)]; exact c2_1_12
  have z0_13 : w.heap.size < w13.heap.size := by omega
  have z1_13 : w3.heap.size < w13.heap.size := by omega
  have z2_13 : w9.heap.size < w13.heap.size := by omega
  clear c0_0_12 c0_1_12 c1_0_12 c1_1_12 c2_0_12 c2_1_12
  have hs1 := hs1.on st13
  clear hb13 st13 hB12
  go_wp2_with fail
  refine (rroot_any A1 k1 c1 l1 _ hs1 n1b (by rw [hv1.out]; exact Va.out.2)).mono ?_
  rintro e w14 ⟨r2, rfl, ht1, ht2, ht3, hb14⟩
  have st14 : Below w13.heap.size w13 w14 := by first | exact hb14 | exact (below_new _ _).trans (hb14.mono (by simp)) | exact ((below_new _ _).alloc (by simp) _).trans (hb14.mono (by simp; omega))
  have sz14 := hb14.size; try simp at sz14
  have hB14 : Below w.heap.size w w14 := hB13.trans (st14.mono hB13.size)
  have y14 : w.heap.size ≤ w14.heap.size := hB14.size
  have c0_0_14 : w14.cell? ⟨w.heap.size, 0, none⟩ = some (.int .u64 ah) := by rw [(bcell st14).1 _ _ (by omega)]; exact c0_0_13
  have c0_1_14 : w14.cell? ⟨w.heap.size, 1, none⟩ = some (.int .u64 al) := by rw [(bcell st14).1 _ _ (by omega)]; exact c0_1_13
  have c1_0_14 : w14.cell? ⟨w3.heap.size, 0, none⟩ = some (.int .u64 rh) := by rw [(bcell st14).1 _ _ (by omega)]; exact c1_0_13
  have c1_1_14 : w14.cell? ⟨w3.heap.size, 1, none⟩ = some (.int .u64 rl) := by rw [(bcell st14).1 _ _ (by omega)]; exact c1_1_13
  have c2_0_14 : w14.cell? ⟨w9.heap.size, 0, none⟩ = some (.int .u64 qh) := by rw [(bcell st14).1 _ _ (by omega)]; exact c2_0_13
  have c2_1_14 : w14.cell? ⟨w9.heap.size, 1, none⟩ = some (.int .u64 ql) := by rw [(bcell st14).1 _ _ (by omega)]; exact c2_1_13
  have z0_14 : w.heap.size < w14.heap.size := by omega
  have z1_14 : w3.heap.size < w14.heap.size := by omega
  have z2_14 : w9.heap.size < w14.heap.size := by omega
  clear c0_0_13 c0_1_13 c1_0_13 c1_1_13 c2_0_13 c2_1_13
  have hs1 := hs1.on st14
  clear hb14 st14 hB13
  rw [hv1.out] at ht2 ht3
  obtain rfl : r2 = r := rroot_unique ht1.1 hr1.out.1 ht2 ht3 hr2.out hr3.out
  clear ht1 ht2 ht3
  go_wp2_with fail
  refine (rnat_any 0 0 r2 (by decide) (by decide) hr1.out _).mono ?_
  rintro e w15 ⟨A7, k7, c7, l7, rfl, hs7, hn7, hv7, _, hb15⟩
  have hn7 := Lib.hid hn7
  have st15 : Below w14.heap.size w14 w15 := by first | exact hb15 | exact (below_new _ _).trans (hb15.mono (by simp)) | exact ((below_new _ _).alloc (by simp) _).trans (hb15.mono (by simp; omega))
  have sz15 := hb15.size; try simp at sz15
  have hB15 : Below w.heap.size w w15 := hB14.trans (st15.mono hB14.size)
  have y15 : w.heap.size ≤ w15.heap.size := hB15.size
  have c0_0_15 : w15.cell? ⟨w.heap.size, 0, none⟩ = some (.int .u64 ah) := by rw [(bcell st15).1 _ _ (by omega)]; exact c0_0_14
  have c0_1_15 : w15.cell? ⟨w.heap.size, 1, none⟩ = some (.int .u64 al) := by rw [(bcell st15).1 _ _ (by omega)]; exact c0_1_14
  have c1_0_15 : w15.cell? ⟨w3.heap.size, 0, none⟩ = some (.int .u64 rh) := by rw [(bcell st15).1 _ _ (by omega)]; exact c1_0_14
  have c1_1_15 : w15.cell? ⟨w3.heap.size, 1, none⟩ = some (.int .u64 rl) := by rw [(bcell st15).1 _ _ (by omega)]; exact c1_1_14
  have c2_0_15 : w15.cell? ⟨w9.heap.size, 0, none⟩ = some (.int .u64 qh) := by rw [(bcell st15).1 _ _ (by omega)]; exact c2_0_14
  have c2_1_15 : w15.cell? ⟨w9.heap.size, 1, none⟩ = some (.int .u64 ql) := by rw [(bcell st15).1 _ _ (by omega)]; exact c2_1_14
  have z0_15 : w.heap.size < w15.heap.size := by omega
  have z1_15 : w3.heap.size < w15.heap.size := by omega
  have z2_15 : w9.heap.size < w15.heap.size := by omega
  clear c0_0_14 c0_1_14 c1_0_14 c1_1_14 c2_0_14 c2_1_14
  have hs1 := hs1.on st15
  clear hb15 st15 hB14
  have k7b : k7 ≤ 8 := hs7.small hn7.out (by rw [hv7, val3_lo]; have := hr1.out.2; omega)
  have hv7 := Lib.hid (hv7.trans val3_lo)
  go_wp2_with fail
  refine (rtimes_any A7 A7 k7 k7 c7 c7 l7 l7 _ hs7 hs7 (by omega) (by omega)).mono ?_
  rintro e w16 ⟨A8, k8, c8, l8, rfl, hs8, hn8, hv8, _, hb16⟩
  have hn8 := Lib.hid hn8
  have st16 : Below w15.heap.size w15 w16 := by first | exact hb16 | exact (below_new _ _).trans (hb16.mono (by simp)) | exact ((below_new _ _).alloc (by simp) _).trans (hb16.mono (by simp; omega))
  have sz16 := hb16.size; try simp at sz16
  have hB16 : Below w.heap.size w w16 := hB15.trans (st16.mono hB15.size)
  have y16 : w.heap.size ≤ w16.heap.size := hB16.size
  have c0_0_16 : w16.cell? ⟨w.heap.size, 0, none⟩ = some (.int .u64 ah) := by rw [(bcell st16).1 _ _ (by omega)]; exact c0_0_15
  have c0_1_16 : w16.cell? ⟨w.heap.size, 1, none⟩ = some (.int .u64 al) := by rw [(bcell st16).1 _ _ (by omega)]; exact c0_1_15
  have c1_0_16 : w16.cell? ⟨w3.heap.size, 0, none⟩ = some (.int .u64 rh) := by rw [(bcell st16).1 _ _ (by omega)]; exact c1_0_15
  have c1_1_16 : w16.cell? ⟨w3.heap.size, 1, none⟩ = some (.int .u64 rl) := by rw [(bcell st16).1 _ _ (by omega)]; exact c1_1_15
  have c2_0_16 : w16.cell? ⟨w9.heap.size, 0, none⟩ = some (.int .u64 qh) := by rw [(bcell st16).1 _ _ (by omega)]; exact c2_0_15
  have c2_1_16 : w16.cell? ⟨w9.heap.size, 1, none⟩ = some (.int .u64 ql) := by rw [(bcell st16).1 _ _ (by omega)]; exact c2_1_15
  have z0_16 : w.heap.size < w16.heap.size := by omega
  have z1_16 : w3.heap.size < w16.heap.size := by omega
  have z2_16 : w9.heap.size < w16.heap.size := by omega
  clear c0_0_15 c0_1_15 c1_0_15 c1_1_15 c2_0_15 c2_1_15
  have hs1 := hs1.on st16
  have hs7 := hs7.on st16
  clear hb16 st16 hB15
  have k8b : k8 ≤ 8 := hs8.small hn8.out (by rw [hv8, hv7.out]; have := (mul_bd _ _ hr1.out hr1.out).2; omega)
  rw [hv7.out] at hv8
  have hv8 := Lib.hid hv8
  go_wp2_with fail
  refine (rcmp_any A8 A1 k8 k1 c8 c1 l8 l1 _ hs8 hs1 (by omega) (by omega)).mono ?_
  rintro e w17 ⟨rfl, hb17⟩
  have st17 : Below w16.heap.size w16 w17 := by first | exact hb17 | exact (below_new _ _).trans (hb17.mono (by simp)) | exact ((below_new _ _).alloc (by simp) _).trans (hb17.mono (by simp; omega))
  have sz17 := hb17.size; try simp at sz17
  have hB17 : Below w.heap.size w w17 := hB16.trans (st17.mono hB16.size)
  have y17 : w.heap.size ≤ w17.heap.size := hB17.size
  have c0_0_17 : w17.cell? ⟨w.heap.size, 0, none⟩ = some (.int .u64 ah) := by rw [(bcell st17).1 _ _ (by omega)]; exact c0_0_16
  have c0_1_17 : w17.cell? ⟨w.heap.size, 1, none⟩ = some (.int .u64 al) := by rw [(bcell st17).1 _ _ (by omega)]; exact c0_1_16
  have c1_0_17 : w17.cell? ⟨w3.heap.size, 0, none⟩ = some (.int .u64 rh) := by rw [(bcell st17).1 _ _ (by omega)]; exact c1_0_16
  have c1_1_17 : w17.cell? ⟨w3.heap.size, 1, none⟩ = some (.int .u64 rl) := by rw [(bcell st17).1 _ _ (by omega)]; exact c1_1_16
  have c2_0_17 : w17.cell? ⟨w9.heap.size, 0, none⟩ = some (.int .u64 qh) := by rw [(bcell st17).1 _ _ (by omega)]; exact c2_0_16
  have c2_1_17 : w17.cell? ⟨w9.heap.size, 1, none⟩ = some (.int .u64 ql) := by rw [(bcell st17).1 _ _ (by omega)]; exact c2_1_16
  have z0_17 : w.heap.size < w17.heap.size := by omega
  have z1_17 : w3.heap.size < w17.heap.size := by omega
  have z2_17 : w9.heap.size < w17.heap.size := by omega
  clear c0_0_16 c0_1_16 c1_0_16 c1_1_16 c2_0_16 c2_1_16
  have hs1 := hs1.on st17
  have hs7 := hs7.on st17
  have hs8 := hs8.on st17
  clear hb17 st17 hB16
  have hz := cmp_zero hr4.out
  rw [hv8.out, hv1.out]
  obtain ⟨cr, hcr⟩ : ∃ cr, cmpI (r2 * r2) (val ah al) = cr := ⟨_, rfl⟩
  rw [hcr] at hz ⊢
  clear hcr
  go_wp2
  go_ret
  exact ⟨by simp, hB17⟩
theorem shifts_any (ah al b n : Int) (h1 : Word ah) (h2 : Word al) (h3 : Word b) (n0 : -9223372036854775808 ≤ n) (n1 : n ≤ 9223372036854775807) (w : World) :
    Calls Try.prog 4 #[.agg #[.int .u64 ah, .int .u64 al], .int .u64 b, .int .i64 n] w (TruePost w) := by
  by_cases c : b = 0
  · subst c; exact shifts_zero ah al n h1 h2 n0 n1 w
  · exact shifts_pos ah al b n h1 h2 h3 (by have := h3.1; omega) n0 n1 w
end Go.Proofs.Ytogldkjhcmlneaa
