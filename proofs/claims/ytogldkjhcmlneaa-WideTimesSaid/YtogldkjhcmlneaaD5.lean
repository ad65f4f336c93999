/-
  The statement WideTimes, walked.
-/
import Derived.Test.YtogldkjhcmlneaaD3
namespace Go.Proofs.Ytogldkjhcmlneaa
open Go.RowKit Go.Shelf

theorem val3_bd {h m l : Int} (h1 : Word h) (h2 : Word m) (h3 : Word l) : 0 ≤ val3 h m l ∧ val3 h m l < 6277101735386680763835789423207666416102355444464034512896 := by unfold val3 Word at *; omega
theorem part3 (h m l : Int) (h1 : Word h) (h2 : Word m) (h3 : Word l) : partI (val3 h m l) 2 = h ∧ partI (val3 h m l) 1 = m ∧ partI (val3 h m l) 0 = l := by
  unfold partI val3 Word at *
  rw [show pw (64 * ((2 : Nat) : Int)) = 340282366920938463463374607431768211456 from rfl, show pw (64 * ((1 : Nat) : Int)) = 18446744073709551616 from rfl, show pw (64 * ((0 : Nat) : Int)) = 1 from rfl]
  omega
theorem keep3 {W w1 w2 : World} {p : Nat} {u0 u1 u2 : Option Value} (h : w1.cell? ⟨p, 0, none⟩ = u0 ∧ w1.cell? ⟨p, 1, none⟩ = u1 ∧ w1.cell? ⟨p, 2, none⟩ = u2 ∧ Below W.heap.size W w1) (hp : p < W.heap.size) (hb : Below w1.heap.size w1 w2) :
    w2.cell? ⟨p, 0, none⟩ = u0 ∧ w2.cell? ⟨p, 1, none⟩ = u1 ∧ w2.cell? ⟨p, 2, none⟩ = u2 ∧ Below W.heap.size W w2 := by
  obtain ⟨h1, h2, h3, h5⟩ := h
  have hp := Nat.lt_of_lt_of_le hp h5.size
  exact ⟨by rw [(bcell hb).1 _ _ hp]; exact h1, by rw [(bcell hb).1 _ _ hp]; exact h2, by rw [(bcell hb).1 _ _ hp]; exact h3, h5.trans (hb.mono h5.size)⟩
theorem qadd {P : Program} {f : FuncId} {args : Array Value} {w : World} {a n : Nat} {v : Value} (h : Calls P f args (w.drewN (a + n)) fun e w' => e = .returned v ∧ w.drewN (a + n) = w') :
    Calls P f args (w.drewN (a + n)) fun e w'' => e = .returned v ∧ ∃ m, w'' = w.drewN (a + m) := h.mono fun _ _ ⟨he, hm⟩ => ⟨he, n, hm.symm⟩
theorem Below.drewN_ {w : World} (n : Nat) : Below w.heap.size w (w.drewN n) := below_drewN (Below.refl _ _) n

set_option maxRecDepth 100000 in
set_option maxHeartbeats 8000000 in
theorem timesl_any (ah al b ch cm cl n : Int) (h1 : Word ah) (h2 : Word al) (h3 : Word b) (h4 : Word ch) (h5 : Word cm) (h6 : Word cl) (n0 : -9223372036854775808 ≤ n) (n1 : n ≤ 9223372036854775807) (w : World) :
    Calls Try.prog 5 #[.agg #[.int .u64 ah, .int .u64 al], .int .u64 b, .agg #[.int .u64 ch, .int .u64 cm, .int .u64 cl], .int .i64 n] w (TruePost w) := by
  have H1 := Lib.hid h1; have H2 := Lib.hid h2; have H3 := Lib.hid h3; have H4 := Lib.hid h4; have H5 := Lib.hid h5; have H6 := Lib.hid h6
  have Va := Lib.hid (val_nonneg h1 h2); have Vc := Lib.hid (val3_bd h4 h5 h6)
  clear h1 h2 h3 h4 h5 h6
  go_enter Try.func5, Try.ntmps5
  go_wp2_with fail
  refine (shown_any _).mono ?_
  rintro e w1 ⟨rfl, hb1⟩
  have st1 : Below w.heap.size w w1 := by first | exact hb1 | exact (below_new _ _).trans (hb1.mono (by simp)) | exact ((below_new _ _).alloc (by simp) _).trans (hb1.mono (by simp; omega))
  have sz1 := hb1.size; try simp at sz1
  have hB1 := st1
  have y1 : w.heap.size ≤ w1.heap.size := hB1.size
  have z0_1 : w.heap.size < w1.heap.size := by omega
  have c0_0_1 : w1.cell? ⟨w.heap.size, 0, none⟩ = some (.int .u64 ah) := by rw [(bcell hb1).1 _ _ (by first | (simp; done) | (simp; omega) | omega)]; simp [go_sem]
  have c0_1_1 : w1.cell? ⟨w.heap.size, 1, none⟩ = some (.int .u64 al) := by rw [(bcell hb1).1 _ _ (by first | (simp; done) | (simp; omega) | omega)]; simp [go_sem]
  have z1_1 : w.heap.size + 1 < w1.heap.size := by omega
  have c1_0_1 : w1.cell? ⟨w.heap.size + 1, 0, none⟩ = some (.int .u64 ch) := by rw [(bcell hb1).1 _ _ (by first | (simp; done) | (simp; omega) | omega)]; simp [go_sem]
  have c1_1_1 : w1.cell? ⟨w.heap.size + 1, 1, none⟩ = some (.int .u64 cm) := by rw [(bcell hb1).1 _ _ (by first | (simp; done) | (simp; omega) | omega)]; simp [go_sem]
  have c1_2_1 : w1.cell? ⟨w.heap.size + 1, 2, none⟩ = some (.int .u64 cl) := by rw [(bcell hb1).1 _ _ (by first | (simp; done) | (simp; omega) | omega)]; simp [go_sem]
  clear hb1 st1
  go_wp2_with fail
  refine (times_any ah al b H1.out H2.out H3.out _).mono ?_
  rintro e w2 ⟨ph, pm, pl, rfl, hw1, hw2, hw3, hpv, hb2⟩
  have hw1 := Lib.hid hw1
  have hw2 := Lib.hid hw2
  have hw3 := Lib.hid hw3
  have hpv := Lib.hid hpv
  have st2 : Below w1.heap.size w1 w2 := by first | exact hb2 | exact (below_new _ _).trans (hb2.mono (by simp)) | exact ((below_new _ _).alloc (by simp) _).trans (hb2.mono (by simp; omega))
  have sz2 := hb2.size; try simp at sz2
  have hB2 : Below w.heap.size w w2 := hB1.trans (st2.mono hB1.size)
  have y2 : w.heap.size ≤ w2.heap.size := hB2.size
  have c0_0_2 : w2.cell? ⟨w.heap.size, 0, none⟩ = some (.int .u64 ah) := by rw [(bcell st2).1 _ _ (by omega)]; exact c0_0_1
  have c0_1_2 : w2.cell? ⟨w.heap.size, 1, none⟩ = some (.int .u64 al) := by rw [(bcell st2).1 _ _ (by omega)]; exact c0_1_1
  have c1_0_2 : w2.cell? ⟨w.heap.size + 1, 0, none⟩ = some (.int .u64 ch) := by rw [(bcell st2).1 _ _ (by omega)]; exact c1_0_1
  have c1_1_2 : w2.cell? ⟨w.heap.size + 1, 1, none⟩ = some (.int .u64 cm) := by rw [(bcell st2).1 _ _ (by omega)]; exact c1_1_1
  have c1_2_2 : w2.cell? ⟨w.heap.size + 1, 2, none⟩ = some (.int .u64 cl) := by rw [(bcell st2).1 _ _ (by omega)]; exact c1_2_1
  have z0_2 : w.heap.size < w2.heap.size := by omega
  have z1_2 : w.heap.size + 1 < w2.heap.size := by omega
  clear c0_0_1 c0_1_1 c1_0_1 c1_1_1 c1_2_1
  clear hb2 st2 hB1
  go_wp2_with fail
  refine (lnat_any ah al H1.out H2.out _).mono ?_
  rintro e w3 ⟨A1, k1, c1, l1, rfl, hs1, hn1, hv1, _, hb3⟩
  have hn1 := Lib.hid hn1
  have st3 : Below w2.heap.size w2 w3 := by first | exact hb3 | exact (below_new _ _).trans (hb3.mono (by simp)) | exact ((below_new _ _).alloc (by simp) _).trans (hb3.mono (by simp; omega))
  have sz3 := hb3.size; try simp at sz3
  have hB3 : Below w.heap.size w w3 := hB2.trans (st3.mono hB2.size)
  have y3 : w.heap.size ≤ w3.heap.size := hB3.size
  have c0_0_3 : w3.cell? ⟨w.heap.size, 0, none⟩ = some (.int .u64 ah) := by rw [(bcell st3).1 _ _ (by omega)]; exact c0_0_2
  have c0_1_3 : w3.cell? ⟨w.heap.size, 1, none⟩ = some (.int .u64 al) := by rw [(bcell st3).1 _ _ (by omega)]; exact c0_1_2
  have c1_0_3 : w3.cell? ⟨w.heap.size + 1, 0, none⟩ = some (.int .u64 ch) := by rw [(bcell st3).1 _ _ (by omega)]; exact c1_0_2
  have c1_1_3 : w3.cell? ⟨w.heap.size + 1, 1, none⟩ = some (.int .u64 cm) := by rw [(bcell st3).1 _ _ (by omega)]; exact c1_1_2
  have c1_2_3 : w3.cell? ⟨w.heap.size + 1, 2, none⟩ = some (.int .u64 cl) := by rw [(bcell st3).1 _ _ (by omega)]; exact c1_2_2
  have z2_3 : w2.heap.size < w3.heap.size := by omega
  have c2_0_3 : w3.cell? ⟨w2.heap.size, 0, none⟩ = some (.int .u64 ph) := by rw [(bcell hb3).1 _ _ (by first | (simp; done) | (simp; omega) | omega)]; simp [go_sem]
  have c2_1_3 : w3.cell? ⟨w2.heap.size, 1, none⟩ = some (.int .u64 pm) := by rw [(bcell hb3).1 _ _ (by first | (simp; done) | (simp; omega) | omega)]; simp [go_sem]
  have c2_2_3 : w3.cell? ⟨w2.heap.size, 2, none⟩ = some (.int .u64 pl) := by rw [(bcell hb3).1 _ _ (by first | (simp; done) | (simp; omega) | omega)]; simp [go_sem]
  have z0_3 : w.heap.size < w3.heap.size := by omega
  have z1_3 : w.heap.size + 1 < w3.heap.size := by omega
  clear c0_0_2 c0_1_2 c1_0_2 c1_1_2 c1_2_2
  clear hb3 st3 hB2
  have k1b : k1 ≤ 8 := hs1.small hn1.out (by rw [hv1]; have := Va.out.2; omega)
  have hv1 := Lib.hid hv1
  go_wp2_with fail
  refine (rnat_any 0 0 b (by decide) (by decide) H3.out _).mono ?_
  rintro e w4 ⟨A2, k2, c2, l2, rfl, hs2, hn2, hv2, _, hb4⟩
  have hn2 := Lib.hid hn2
  have st4 : Below w3.heap.size w3 w4 := by first | exact hb4 | exact (below_new _ _).trans (hb4.mono (by simp)) | exact ((below_new _ _).alloc (by simp) _).trans (hb4.mono (by simp; omega))
  have sz4 := hb4.size; try simp at sz4
  have hB4 : Below w.heap.size w w4 := hB3.trans (st4.mono hB3.size)
  have y4 : w.heap.size ≤ w4.heap.size := hB4.size
  have c0_0_4 : w4.cell? ⟨w.heap.size, 0, none⟩ = some (.int .u64 ah) := by rw [(bcell st4).1 _ _ (by omega)]; exact c0_0_3
  have c0_1_4 : w4.cell? ⟨w.heap.size, 1, none⟩ = some (.int .u64 al) := by rw [(bcell st4).1 _ _ (by omega)]; exact c0_1_3
  have c1_0_4 : w4.cell? ⟨w.heap.size + 1, 0, none⟩ = some (.int .u64 ch) := by rw [(bcell st4).1 _ _ (by omega)]; exact c1_0_3
  have c1_1_4 : w4.cell? ⟨w.heap.size + 1, 1, none⟩ = some (.int .u64 cm) := by rw [(bcell st4).1 _ _ (by omega)]; exact c1_1_3
  have c1_2_4 : w4.cell? ⟨w.heap.size + 1, 2, none⟩ = some (.int .u64 cl) := by rw [(bcell st4).1 _ _ (by omega)]; exact c1_2_3
  have c2_0_4 : w4.cell? ⟨w2.heap.size, 0, none⟩ = some (.int .u64 ph) := by rw [(bcell st4).1 _ _ (by omega)]; exact c2_0_3
  have c2_1_4 : w4.cell? ⟨w2.heap.size, 1, none⟩ = some (.int .u64 pm) := by rw [(bcell st4).1 _ _ (by omega)]; exact c2_1_3
  have c2_2_4 : w4.cell? ⟨w2.heap.size, 2, none⟩ = some (.int .u64 pl) := by rw [(bcell st4).1 _ _ (by omega)]; exact c2_2_3
  have z0_4 : w.heap.size < w4.heap.size := by omega
  have z1_4 : w.heap.size + 1 < w4.heap.size := by omega
  have z2_4 : w2.heap.size < w4.heap.size := by omega
  clear c0_0_3 c0_1_3 c1_0_3 c1_1_3 c1_2_3 c2_0_3 c2_1_3 c2_2_3
  have hs1 := hs1.on st4
  clear hb4 st4 hB3
  have k2b : k2 ≤ 8 := hs2.small hn2.out (by rw [hv2, val3_lo]; have := H3.out.2; omega)
  have hv2 := Lib.hid (hv2.trans val3_lo)
  go_wp2_with fail
  refine (rtimes_any A1 A2 k1 k2 c1 c2 l1 l2 _ hs1 hs2 (by omega) (by omega)).mono ?_
  rintro e w5 ⟨A3, k3, c3, l3, rfl, hs3, hn3, hv3, _, hb5⟩
  have st5 : Below w4.heap.size w4 w5 := by first | exact hb5 | exact (below_new _ _).trans (hb5.mono (by simp)) | exact ((below_new _ _).alloc (by simp) _).trans (hb5.mono (by simp; omega))
  have sz5 := hb5.size; try simp at sz5
  have hB5 : Below w.heap.size w w5 := hB4.trans (st5.mono hB4.size)
  have y5 : w.heap.size ≤ w5.heap.size := hB5.size
  have c0_0_5 : w5.cell? ⟨w.heap.size, 0, none⟩ = some (.int .u64 ah) := by rw [(bcell st5).1 _ _ (by omega)]; exact c0_0_4
  have c0_1_5 : w5.cell? ⟨w.heap.size, 1, none⟩ = some (.int .u64 al) := by rw [(bcell st5).1 _ _ (by omega)]; exact c0_1_4
  have c1_0_5 : w5.cell? ⟨w.heap.size + 1, 0, none⟩ = some (.int .u64 ch) := by rw [(bcell st5).1 _ _ (by omega)]; exact c1_0_4
  have c1_1_5 : w5.cell? ⟨w.heap.size + 1, 1, none⟩ = some (.int .u64 cm) := by rw [(bcell st5).1 _ _ (by omega)]; exact c1_1_4
  have c1_2_5 : w5.cell? ⟨w.heap.size + 1, 2, none⟩ = some (.int .u64 cl) := by rw [(bcell st5).1 _ _ (by omega)]; exact c1_2_4
  have c2_0_5 : w5.cell? ⟨w2.heap.size, 0, none⟩ = some (.int .u64 ph) := by rw [(bcell st5).1 _ _ (by omega)]; exact c2_0_4
  have c2_1_5 : w5.cell? ⟨w2.heap.size, 1, none⟩ = some (.int .u64 pm) := by rw [(bcell st5).1 _ _ (by omega)]; exact c2_1_4
  have c2_2_5 : w5.cell? ⟨w2.heap.size, 2, none⟩ = some (.int .u64 pl) := by rw [(bcell st5).1 _ _ (by omega)]; exact c2_2_4
  have z0_5 : w.heap.size < w5.heap.size := by omega
  have z1_5 : w.heap.size + 1 < w5.heap.size := by omega
  have z2_5 : w2.heap.size < w5.heap.size := by omega
  clear c0_0_4 c0_1_4 c1_0_4 c1_1_4 c1_2_4 c2_0_4 c2_1_4 c2_2_4
  have hs1 := hs1.on st5
  have hs2 := hs2.on st5
  clear hb5 st5 hB4
  rw [hv1.out, hv2.out, ← hpv.out] at hv3
  have hv3 := Lib.hid hv3; clear hn3
  clear hs1 hs2
  go_wp2_with fail
  refine (drop_any ch cm cl n H4.out H5.out H6.out n0 n1 _).mono ?_
  rintro e w6 ⟨dh, dm, dl, lo, rfl, hw4, hw5, hw6, hdv, hdo, hb6⟩
  have hw4 := Lib.hid hw4
  have hw5 := Lib.hid hw5
  have hw6 := Lib.hid hw6
  have hdv := Lib.hid hdv
  have hdo := Lib.hid hdo
  have st6 : Below w5.heap.size w5 w6 := by first | exact hb6 | exact (below_new _ _).trans (hb6.mono (by simp)) | exact ((below_new _ _).alloc (by simp) _).trans (hb6.mono (by simp; omega))
  have sz6 := hb6.size; try simp at sz6
  have hB6 : Below w.heap.size w w6 := hB5.trans (st6.mono hB5.size)
  have y6 : w.heap.size ≤ w6.heap.size := hB6.size
  have c0_0_6 : w6.cell? ⟨w.heap.size, 0, none⟩ = some (.int .u64 ah) := by rw [(bcell st6).1 _ _ (by omega)]; exact c0_0_5
  have c0_1_6 : w6.cell? ⟨w.heap.size, 1, none⟩ = some (.int .u64 al) := by rw [(bcell st6).1 _ _ (by omega)]; exact c0_1_5
  have c1_0_6 : w6.cell? ⟨w.heap.size + 1, 0, none⟩ = some (.int .u64 ch) := by rw [(bcell st6).1 _ _ (by omega)]; exact c1_0_5
  have c1_1_6 : w6.cell? ⟨w.heap.size + 1, 1, none⟩ = some (.int .u64 cm) := by rw [(bcell st6).1 _ _ (by omega)]; exact c1_1_5
  have c1_2_6 : w6.cell? ⟨w.heap.size + 1, 2, none⟩ = some (.int .u64 cl) := by rw [(bcell st6).1 _ _ (by omega)]; exact c1_2_5
  have c2_0_6 : w6.cell? ⟨w2.heap.size, 0, none⟩ = some (.int .u64 ph) := by rw [(bcell st6).1 _ _ (by omega)]; exact c2_0_5
  have c2_1_6 : w6.cell? ⟨w2.heap.size, 1, none⟩ = some (.int .u64 pm) := by rw [(bcell st6).1 _ _ (by omega)]; exact c2_1_5
  have c2_2_6 : w6.cell? ⟨w2.heap.size, 2, none⟩ = some (.int .u64 pl) := by rw [(bcell st6).1 _ _ (by omega)]; exact c2_2_5
  have z0_6 : w.heap.size < w6.heap.size := by omega
  have z1_6 : w.heap.size + 1 < w6.heap.size := by omega
  have z2_6 : w2.heap.size < w6.heap.size := by omega
  clear c0_0_5 c0_1_5 c1_0_5 c1_1_5 c1_2_5 c2_0_5 c2_1_5 c2_2_5
  have hs3 := hs3.on st6
  clear hb6 st6 hB5
  go_wp2_with fail
  refine (rnat_any ch cm cl H4.out H5.out H6.out _).mono ?_
  rintro e w7 ⟨A4, k4, c4, l4, rfl, hs4, hn4, hv4, _, hb7⟩
  have hn4 := Lib.hid hn4
  have st7 : Below w6.heap.size w6 w7 := by first | exact hb7 | exact (below_new _ _).trans (hb7.mono (by simp)) | exact ((below_new _ _).alloc (by simp) _).trans (hb7.mono (by simp; omega))
  have sz7 := hb7.size; try simp at sz7
  have hB7 : Below w.heap.size w w7 := hB6.trans (st7.mono hB6.size)
  have y7 : w.heap.size ≤ w7.heap.size := hB7.size
  have c0_0_7 : w7.cell? ⟨w.heap.size, 0, none⟩ = some (.int .u64 ah) := by rw [(bcell st7).1 _ _ (by omega)]; exact c0_0_6
  have c0_1_7 : w7.cell? ⟨w.heap.size, 1, none⟩ = some (.int .u64 al) := by rw [(bcell st7).1 _ _ (by omega)]; exact c0_1_6
  have c1_0_7 : w7.cell? ⟨w.heap.size + 1, 0, none⟩ = some (.int .u64 ch) := by rw [(bcell st7).1 _ _ (by omega)]; exact c1_0_6
  have c1_1_7 : w7.cell? ⟨w.heap.size + 1, 1, none⟩ = some (.int .u64 cm) := by rw [(bcell st7).1 _ _ (by omega)]; exact c1_1_6
  have c1_2_7 : w7.cell? ⟨w.heap.size + 1, 2, none⟩ = some (.int .u64 cl) := by rw [(bcell st7).1 _ _ (by omega)]; exact c1_2_6
  have c2_0_7 : w7.cell? ⟨w2.heap.size, 0, none⟩ = some (.int .u64 ph) := by rw [(bcell st7).1 _ _ (by omega)]; exact c2_0_6
  have c2_1_7 : w7.cell? ⟨w2.heap.size, 1, none⟩ = some (.int .u64 pm) := by rw [(bcell st7).1 _ _ (by omega)]; exact c2_1_6
  have c2_2_7 : w7.cell? ⟨w2.heap.size, 2, none⟩ = some (.int .u64 pl) := by rw [(bcell st7).1 _ _ (by omega)]; exact c2_2_6
  have z3_7 : w6.heap.size < w7.heap.size := by omega
  have c3_0_7 : w7.cell? ⟨w6.heap.size, 0, none⟩ = some (.int .u64 dh) := by rw [(bcell hb7).1 _ _ (by first | (simp; done) | (simp; omega) | omega)]; simp [go_sem]
  have c3_1_7 : w7.cell? ⟨w6.heap.size, 1, none⟩ = some (.int .u64 dm) := by rw [(bcell hb7).1 _ _ (by first | (simp; done) | (simp; omega) | omega)]; simp [go_sem]
  have c3_2_7 : w7.cell? ⟨w6.heap.size, 2, none⟩ = some (.int .u64 dl) := by rw [(bcell hb7).1 _ _ (by first | (simp; done) | (simp; omega) | omega)]; simp [go_sem]
  have z0_7 : w.heap.size < w7.heap.size := by omega
  have z1_7 : w.heap.size + 1 < w7.heap.size := by omega
  have z2_7 : w2.heap.size < w7.heap.size := by omega
  clear c0_0_6 c0_1_6 c1_0_6 c1_1_6 c1_2_6 c2_0_6 c2_1_6 c2_2_6
  have hs3 := hs3.on st7
  clear hb7 st7 hB6
  have k4b : k4 ≤ 8 := hs4.small hn4.out (by rw [hv4]; have := Vc.out.2; omega)
  have hv4 := Lib.hid hv4
  go_wp2_with fail
  refine (r2shr_any A4 k4 c4 l4 n _ hs4 (by omega) n1).mono ?_
  rintro e w8 ⟨A5, k5, c5, l5, lo2, rfl, hs5, hn5, hp5, hb8⟩
  have st8 : Below w7.heap.size w7 w8 := by first | exact hb8 | exact (below_new _ _).trans (hb8.mono (by simp)) | exact ((below_new _ _).alloc (by simp) _).trans (hb8.mono (by simp; omega))
  have sz8 := hb8.size; try simp at sz8
  have hB8 : Below w.heap.size w w8 := hB7.trans (st8.mono hB7.size)
  have y8 : w.heap.size ≤ w8.heap.size := hB8.size
  have c0_0_8 : w8.cell? ⟨w.heap.size, 0, none⟩ = some (.int .u64 ah) := by rw [(bcell st8).1 _ _ (by omega)]; exact c0_0_7
  have c0_1_8 : w8.cell? ⟨w.heap.size, 1, none⟩ = some (.int .u64 al) := by rw [(bcell st8).1 _ _ (by omega)]; exact c0_1_7
  have c1_0_8 : w8.cell? ⟨w.heap.size + 1, 0, none⟩ = some (.int .u64 ch) := by rw [(bcell st8).1 _ _ (by omega)]; exact c1_0_7
  have c1_1_8 : w8.cell? ⟨w.heap.size + 1, 1, none⟩ = some (.int .u64 cm) := by rw [(bcell st8).1 _ _ (by omega)]; exact c1_1_7
  have c1_2_8 : w8.cell? ⟨w.heap.size + 1, 2, none⟩ = some (.int .u64 cl) := by rw [(bcell st8).1 _ _ (by omega)]; exact c1_2_7
  have c2_0_8 : w8.cell? ⟨w2.heap.size, 0, none⟩ = some (.int .u64 ph) := by rw [(bcell st8).1 _ _ (by omega)]; exact c2_0_7
  have c2_1_8 : w8.cell? ⟨w2.heap.size, 1, none⟩ = some (.int .u64 pm) := by rw [(bcell st8).1 _ _ (by omega)]; exact c2_1_7
  have c2_2_8 : w8.cell? ⟨w2.heap.size, 2, none⟩ = some (.int .u64 pl) := by rw [(bcell st8).1 _ _ (by omega)]; exact c2_2_7
  have c3_0_8 : w8.cell? ⟨w6.heap.size, 0, none⟩ = some (.int .u64 dh) := by rw [(bcell st8).1 _ _ (by omega)]; exact c3_0_7
  have c3_1_8 : w8.cell? ⟨w6.heap.size, 1, none⟩ = some (.int .u64 dm) := by rw [(bcell st8).1 _ _ (by omega)]; exact c3_1_7
  have c3_2_8 : w8.cell? ⟨w6.heap.size, 2, none⟩ = some (.int .u64 dl) := by rw [(bcell st8).1 _ _ (by omega)]; exact c3_2_7
  have z0_8 : w.heap.size < w8.heap.size := by omega
  have z1_8 : w.heap.size + 1 < w8.heap.size := by omega
  have z2_8 : w2.heap.size < w8.heap.size := by omega
  have z3_8 : w6.heap.size < w8.heap.size := by omega
  clear c0_0_7 c0_1_7 c1_0_7 c1_1_7 c1_2_7 c2_0_7 c2_1_7 c2_2_7 c3_0_7 c3_1_7 c3_2_7
  have hs3 := hs3.on st8
  have hs4 := hs4.on st8
  clear hb8 st8 hB7
  obtain ⟨e2, e3⟩ := hp5
  rw [hv4.out] at e2 e3
  obtain rfl : lo2 = lo := by rw [e3]; exact bool_dec hdo.out
  have hv5 : Hid (natV l5 = val3 dh dm dl) := by unfold Hid; rw [e2, hdv.out]
  clear e2 e3 hdo hn5
  obtain ⟨q2, q1, q0⟩ := part3 ph pm pl hw1.out hw2.out hw3.out
  obtain ⟨r2, r1, r0⟩ := part3 dh dm dl hw4.out hw5.out hw6.out
  rw [← hv3.out] at q2 q1 q0
  rw [← hv5.out] at r2 r1 r0
  have K2 := Lib.hid (fun i => part_any A3 k3 c3 l3 2 ph (w8.drewN i) (hs3.drewN i) (by omega) q2)
  have K1 := Lib.hid (fun i => part_any A3 k3 c3 l3 1 pm (w8.drewN i) (hs3.drewN i) (by omega) q1)
  have K0 := Lib.hid (fun i => part_any A3 k3 c3 l3 0 pl (w8.drewN i) (hs3.drewN i) (by omega) q0)
  clear q2 q1 q0 hs3 hs4
  have r2 := Lib.hid r2; have r1 := Lib.hid r1; have r0 := Lib.hid r0
  go_wp2
  go_quiet (first | (go_at_call_of 28 (Value.int IntKind.i64 2); exact qcall (K2.out _)) | (go_at_call_of 28 (Value.int IntKind.i64 1); exact qcall (K1.out _)) | (go_at_call_of 28 (Value.int IntKind.i64 0); exact qcall (K0.out _)))
  obtain ⟨wx, hwx⟩ : ∃ wx, w8.drewN nq = wx := ⟨_, rfl⟩
  have bx : Below w8.heap.size w8 wx := by rw [← hwx]; exact Below.drewN_ _
  have J2 := Lib.hid (fun i => part_any A5 k5 c5 l5 2 dh (wx.drewN i) (by rw [← hwx]; exact (hs5.drewN _).drewN i) (by omega) r2.out)
  have J1 := Lib.hid (fun i => part_any A5 k5 c5 l5 1 dm (wx.drewN i) (by rw [← hwx]; exact (hs5.drewN _).drewN i) (by omega) r1.out)
  have J0 := Lib.hid (fun i => part_any A5 k5 c5 l5 0 dl (wx.drewN i) (by rw [← hwx]; exact (hs5.drewN _).drewN i) (by omega) r0.out)
  have x1_0wx : wx.cell? ⟨w.heap.size + 1, 0, none⟩ = some (.int .u64 ch) := by rw [← hwx]; exact c1_0_8
  have x1_1wx : wx.cell? ⟨w.heap.size + 1, 1, none⟩ = some (.int .u64 cm) := by rw [← hwx]; exact c1_1_8
  have x1_2wx : wx.cell? ⟨w.heap.size + 1, 2, none⟩ = some (.int .u64 cl) := by rw [← hwx]; exact c1_2_8
  have x2_0wx : wx.cell? ⟨w2.heap.size, 0, none⟩ = some (.int .u64 ph) := by rw [← hwx]; exact c2_0_8
  have x2_1wx : wx.cell? ⟨w2.heap.size, 1, none⟩ = some (.int .u64 pm) := by rw [← hwx]; exact c2_1_8
  have x2_2wx : wx.cell? ⟨w2.heap.size, 2, none⟩ = some (.int .u64 pl) := by rw [← hwx]; exact c2_2_8
  have x3_0wx : wx.cell? ⟨w6.heap.size, 0, none⟩ = some (.int .u64 dh) := by rw [← hwx]; exact c3_0_8
  have x3_1wx : wx.cell? ⟨w6.heap.size, 1, none⟩ = some (.int .u64 dm) := by rw [← hwx]; exact c3_1_8
  have x3_2wx : wx.cell? ⟨w6.heap.size, 2, none⟩ = some (.int .u64 dl) := by rw [← hwx]; exact c3_2_8
  rw [hwx]
  have E := Lib.hid hwx
  clear hwx hs5 K0 K1 K2 c0_0_8 c0_1_8 c1_0_8 c1_1_8 c1_2_8 c2_0_8 c2_1_8 c2_2_8 c3_0_8 c3_1_8 c3_2_8
  go_wp2
  go_quiet (first | (go_at_call_of 28 (Value.int IntKind.i64 2); exact qcall (J2.out _)) | (go_at_call_of 28 (Value.int IntKind.i64 1); exact qcall (J1.out _)) | (go_at_call_of 28 (Value.int IntKind.i64 0); exact qcall (J0.out _)))
  obtain ⟨wy, hwy⟩ : ∃ wy, wx.drewN nq = wy := ⟨_, rfl⟩
  have by_ : Below wx.heap.size wx wy := by rw [← hwy]; exact Below.drewN_ _
  have x1_0wy : wy.cell? ⟨w.heap.size + 1, 0, none⟩ = some (.int .u64 ch) := by rw [← hwy]; exact x1_0wx
  have x1_1wy : wy.cell? ⟨w.heap.size + 1, 1, none⟩ = some (.int .u64 cm) := by rw [← hwy]; exact x1_1wx
  have x1_2wy : wy.cell? ⟨w.heap.size + 1, 2, none⟩ = some (.int .u64 cl) := by rw [← hwy]; exact x1_2wx
  rw [hwy]
  have E2 := Lib.hid hwy
  have hBy : Below w.heap.size w wy := hB8.trans ((bx.trans (by_.mono bx.size)).mono hB8.size)
  have zy : w.heap.size + 1 < wy.heap.size := by have := bx.size; have := by_.size; omega
  clear hwy J0 J1 J2
  have SS : wy.drew.cell? ⟨w.heap.size + 1, 0, none⟩ = some (.int .u64 ch) ∧ wy.drew.cell? ⟨w.heap.size + 1, 1, none⟩ = some (.int .u64 cm) ∧ wy.drew.cell? ⟨w.heap.size + 1, 2, none⟩ = some (.int .u64 cl) ∧ Below wy.heap.size wy wy.drew := ⟨x1_0wy, x1_1wy, x1_2wy, (Below.refl _ _).drew⟩
  have SS := Lib.hid SS
  go_wp2
  go_region_held3 (fun w' => w'.cell? ⟨w.heap.size + 1, 0, none⟩ = some (.int .u64 ch) ∧ w'.cell? ⟨w.heap.size + 1, 1, none⟩ = some (.int .u64 cm) ∧ w'.cell? ⟨w.heap.size + 1, 2, none⟩ = some (.int .u64 cl) ∧ Below wy.heap.size wy w')
    (first | exact SS.out | exact keep3 (by assumption) (by omega) (by assumption))
    (first
      | (go_at_call 33; refine (low_any ch cm cl _).mono ?_; rintro e x1 ⟨rfl, hx1⟩))
  have hS : x1.cell? ⟨w.heap.size + 1, 0, none⟩ = some (.int .u64 ch) ∧ x1.cell? ⟨w.heap.size + 1, 1, none⟩ = some (.int .u64 cm) ∧ x1.cell? ⟨w.heap.size + 1, 2, none⟩ = some (.int .u64 cl) ∧ Below wy.heap.size wy x1 := by assumption
  obtain ⟨_, _, _, hx⟩ := hS
  have fin : Below w.heap.size w x1 := hBy.trans (hx.mono hBy.size)
  go_wp2
  go_ret
  exact ⟨by simp, fin⟩
end Go.Proofs.Ytogldkjhcmlneaa
