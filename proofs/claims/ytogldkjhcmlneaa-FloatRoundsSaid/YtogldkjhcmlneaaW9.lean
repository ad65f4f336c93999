/-
  The head of chapter 2's statements, walked.
-/
import Derived.Test.YtogldkjhcmlneaaW8
namespace Go.Proofs.Ytogldkjhcmlneaa
open Go.RowKit Go.Shelf

/-- What the head answers: true; nothing that was there has changed. -/
def TruePost (w : World) (e : Ending) (w' : World) : Prop := e = .returned (.bool true) ∧ Below w.heap.size w w'

set_option maxRecDepth 100000 in
set_option maxHeartbeats 4000000 in
theorem shown_any (w : World) : Calls Try.prog 8 #[] w (TruePost w) := by
  go_enter Try.func8, Try.ntmps8
  go_wp2_with fail
  refine (c_add _).mono ?_
  rintro e w1 ⟨rfl, hb1⟩
  have s1 := hb1.size; try simp at s1
  have hB1 : Below w.heap.size w w1 := hb1
  have y1 : w.heap.size ≤ w1.heap.size := hB1.size
  clear hb1
  go_wp2_with fail
  refine (c_sub _).mono ?_
  rintro e w2 ⟨rfl, hb2⟩
  have s2 := hb2.size; try simp at s2
  have hB2 : Below w.heap.size w w2 := (hB1.alloc (by omega) _).trans (hb2.mono (by simp; omega))
  have y2 : w.heap.size ≤ w2.heap.size := hB2.size
  have z1_2 : w1.heap.size < w2.heap.size := by omega
  have c2_1_0 : w2.cell? ⟨w1.heap.size, 0, none⟩ = some (.int .u64 0) := by rw [(bcell hb2).1 _ _ (by first | (simp; done) | (simp; omega) | omega)]; simp [go_sem]
  have c2_1_1 : w2.cell? ⟨w1.heap.size, 1, none⟩ = some (.int .u64 0) := by rw [(bcell hb2).1 _ _ (by first | (simp; done) | (simp; omega) | omega)]; simp [go_sem]
  clear hb2
  clear hB1
  go_wp2_with fail
  refine (c_mul1 _).mono ?_
  rintro e w3 ⟨rfl, hb3⟩
  have s3 := hb3.size; try simp at s3
  have hB3 : Below w.heap.size w w3 := (hB2.alloc (by omega) _).trans (hb3.mono (by simp; omega))
  have y3 : w.heap.size ≤ w3.heap.size := hB3.size
  have z1_3 : w1.heap.size < w3.heap.size := by omega
  have c3_1_0 : w3.cell? ⟨w1.heap.size, 0, none⟩ = some (.int .u64 0) := by rw [(bcell hb3).1 _ _ (by first | (simp; done) | (simp; omega) | omega)]; simp [go_sem, c2_1_0, z1_2]
  have c3_1_1 : w3.cell? ⟨w1.heap.size, 1, none⟩ = some (.int .u64 0) := by rw [(bcell hb3).1 _ _ (by first | (simp; done) | (simp; omega) | omega)]; simp [go_sem, c2_1_1, z1_2]
  have z2_3 : w2.heap.size < w3.heap.size := by omega
  have c3_2_0 : w3.cell? ⟨w2.heap.size, 0, none⟩ = some (.int .u64 18446744073709551615) := by rw [(bcell hb3).1 _ _ (by first | (simp; done) | (simp; omega) | omega)]; simp [go_sem]
  have c3_2_1 : w3.cell? ⟨w2.heap.size, 1, none⟩ = some (.int .u64 18446744073709551615) := by rw [(bcell hb3).1 _ _ (by first | (simp; done) | (simp; omega) | omega)]; simp [go_sem]
  clear hb3
  clear c2_1_0 c2_1_1
  clear hB2
  go_wp2_with fail
  refine (c_mul2 _).mono ?_
  rintro e w4 ⟨rfl, hb4⟩
  have s4 := hb4.size; try simp at s4
  have hB4 : Below w.heap.size w w4 := (hB3.alloc (by omega) _).trans (hb4.mono (by simp; omega))
  have y4 : w.heap.size ≤ w4.heap.size := hB4.size
  have z1_4 : w1.heap.size < w4.heap.size := by omega
  have c4_1_0 : w4.cell? ⟨w1.heap.size, 0, none⟩ = some (.int .u64 0) := by rw [(bcell hb4).1 _ _ (by first | (simp; done) | (simp; omega) | omega)]; simp [go_sem, c3_1_0, z1_3]
  have c4_1_1 : w4.cell? ⟨w1.heap.size, 1, none⟩ = some (.int .u64 0) := by rw [(bcell hb4).1 _ _ (by first | (simp; done) | (simp; omega) | omega)]; simp [go_sem, c3_1_1, z1_3]
  have z2_4 : w2.heap.size < w4.heap.size := by omega
  have c4_2_0 : w4.cell? ⟨w2.heap.size, 0, none⟩ = some (.int .u64 18446744073709551615) := by rw [(bcell hb4).1 _ _ (by first | (simp; done) | (simp; omega) | omega)]; simp [go_sem, c3_2_0, z2_3]
  have c4_2_1 : w4.cell? ⟨w2.heap.size, 1, none⟩ = some (.int .u64 18446744073709551615) := by rw [(bcell hb4).1 _ _ (by first | (simp; done) | (simp; omega) | omega)]; simp [go_sem, c3_2_1, z2_3]
  have z3_4 : w3.heap.size < w4.heap.size := by omega
  have c4_3_0 : w4.cell? ⟨w3.heap.size, 0, none⟩ = some (.int .u64 1) := by rw [(bcell hb4).1 _ _ (by first | (simp; done) | (simp; omega) | omega)]; simp [go_sem]
  have c4_3_1 : w4.cell? ⟨w3.heap.size, 1, none⟩ = some (.int .u64 0) := by rw [(bcell hb4).1 _ _ (by first | (simp; done) | (simp; omega) | omega)]; simp [go_sem]
  clear hb4
  clear c3_1_0 c3_1_1 c3_2_0 c3_2_1
  clear hB3
  go_wp2_with fail
  refine (c_shr1 _).mono ?_
  rintro e w5 ⟨rfl, hb5⟩
  have s5 := hb5.size; try simp at s5
  have hB5 : Below w.heap.size w w5 := (hB4.alloc (by omega) _).trans (hb5.mono (by simp; omega))
  have y5 : w.heap.size ≤ w5.heap.size := hB5.size
  have z1_5 : w1.heap.size < w5.heap.size := by omega
  have c5_1_0 : w5.cell? ⟨w1.heap.size, 0, none⟩ = some (.int .u64 0) := by rw [(bcell hb5).1 _ _ (by first | (simp; done) | (simp; omega) | omega)]; simp [go_sem, c4_1_0, z1_4]
  have c5_1_1 : w5.cell? ⟨w1.heap.size, 1, none⟩ = some (.int .u64 0) := by rw [(bcell hb5).1 _ _ (by first | (simp; done) | (simp; omega) | omega)]; simp [go_sem, c4_1_1, z1_4]
  have z2_5 : w2.heap.size < w5.heap.size := by omega
  have c5_2_0 : w5.cell? ⟨w2.heap.size, 0, none⟩ = some (.int .u64 18446744073709551615) := by rw [(bcell hb5).1 _ _ (by first | (simp; done) | (simp; omega) | omega)]; simp [go_sem, c4_2_0, z2_4]
  have c5_2_1 : w5.cell? ⟨w2.heap.size, 1, none⟩ = some (.int .u64 18446744073709551615) := by rw [(bcell hb5).1 _ _ (by first | (simp; done) | (simp; omega) | omega)]; simp [go_sem, c4_2_1, z2_4]
  have z3_5 : w3.heap.size < w5.heap.size := by omega
  have c5_3_0 : w5.cell? ⟨w3.heap.size, 0, none⟩ = some (.int .u64 1) := by rw [(bcell hb5).1 _ _ (by first | (simp; done) | (simp; omega) | omega)]; simp [go_sem, c4_3_0, z3_4]
  have c5_3_1 : w5.cell? ⟨w3.heap.size, 1, none⟩ = some (.int .u64 0) := by rw [(bcell hb5).1 _ _ (by first | (simp; done) | (simp; omega) | omega)]; simp [go_sem, c4_3_1, z3_4]
  have z4_5 : w4.heap.size < w5.heap.size := by omega
  have c5_4_0 : w5.cell? ⟨w4.heap.size, 0, none⟩ = some (.int .u64 18446744073709551614) := by rw [(bcell hb5).1 _ _ (by first | (simp; done) | (simp; omega) | omega)]; simp [go_sem]
  have c5_4_1 : w5.cell? ⟨w4.heap.size, 1, none⟩ = some (.int .u64 1) := by rw [(bcell hb5).1 _ _ (by first | (simp; done) | (simp; omega) | omega)]; simp [go_sem]
  clear hb5
  clear c4_1_0 c4_1_1 c4_2_0 c4_2_1 c4_3_0 c4_3_1
  clear hB4
  go_wp2_with fail
  refine (c_shr2 _).mono ?_
  rintro e w6 ⟨rfl, hb6⟩
  have s6 := hb6.size; try simp at s6
  have hB6 : Below w.heap.size w w6 := (hB5.alloc (by omega) _).trans (hb6.mono (by simp; omega))
  have y6 : w.heap.size ≤ w6.heap.size := hB6.size
  have z1_6 : w1.heap.size < w6.heap.size := by omega
  have c6_1_0 : w6.cell? ⟨w1.heap.size, 0, none⟩ = some (.int .u64 0) := by rw [(bcell hb6).1 _ _ (by first | (simp; done) | (simp; omega) | omega)]; simp [go_sem, c5_1_0, z1_5]
  have c6_1_1 : w6.cell? ⟨w1.heap.size, 1, none⟩ = some (.int .u64 0) := by rw [(bcell hb6).1 _ _ (by first | (simp; done) | (simp; omega) | omega)]; simp [go_sem, c5_1_1, z1_5]
  have z2_6 : w2.heap.size < w6.heap.size := by omega
  have c6_2_0 : w6.cell? ⟨w2.heap.size, 0, none⟩ = some (.int .u64 18446744073709551615) := by rw [(bcell hb6).1 _ _ (by first | (simp; done) | (simp; omega) | omega)]; simp [go_sem, c5_2_0, z2_5]
  have c6_2_1 : w6.cell? ⟨w2.heap.size, 1, none⟩ = some (.int .u64 18446744073709551615) := by rw [(bcell hb6).1 _ _ (by first | (simp; done) | (simp; omega) | omega)]; simp [go_sem, c5_2_1, z2_5]
  have z3_6 : w3.heap.size < w6.heap.size := by omega
  have c6_3_0 : w6.cell? ⟨w3.heap.size, 0, none⟩ = some (.int .u64 1) := by rw [(bcell hb6).1 _ _ (by first | (simp; done) | (simp; omega) | omega)]; simp [go_sem, c5_3_0, z3_5]
  have c6_3_1 : w6.cell? ⟨w3.heap.size, 1, none⟩ = some (.int .u64 0) := by rw [(bcell hb6).1 _ _ (by first | (simp; done) | (simp; omega) | omega)]; simp [go_sem, c5_3_1, z3_5]
  have z4_6 : w4.heap.size < w6.heap.size := by omega
  have c6_4_0 : w6.cell? ⟨w4.heap.size, 0, none⟩ = some (.int .u64 18446744073709551614) := by rw [(bcell hb6).1 _ _ (by first | (simp; done) | (simp; omega) | omega)]; simp [go_sem, c5_4_0, z4_5]
  have c6_4_1 : w6.cell? ⟨w4.heap.size, 1, none⟩ = some (.int .u64 1) := by rw [(bcell hb6).1 _ _ (by first | (simp; done) | (simp; omega) | omega)]; simp [go_sem, c5_4_1, z4_5]
  have z5_6 : w5.heap.size < w6.heap.size := by omega
  have c6_5_0 : w6.cell? ⟨w5.heap.size, 0, none⟩ = some (.int .u64 0) := by rw [(bcell hb6).1 _ _ (by first | (simp; done) | (simp; omega) | omega)]; simp [go_sem]
  have c6_5_1 : w6.cell? ⟨w5.heap.size, 1, none⟩ = some (.int .u64 1) := by rw [(bcell hb6).1 _ _ (by first | (simp; done) | (simp; omega) | omega)]; simp [go_sem]
  clear hb6
  clear c5_1_0 c5_1_1 c5_2_0 c5_2_1 c5_3_0 c5_3_1 c5_4_0 c5_4_1
  clear hB5
  go_wp2_with fail
  refine (c_shl1 _).mono ?_
  rintro e w7 ⟨rfl, hb7⟩
  have s7 := hb7.size; try simp at s7
  have hB7 : Below w.heap.size w w7 := (hB6.alloc (by omega) _).trans (hb7.mono (by simp; omega))
  have y7 : w.heap.size ≤ w7.heap.size := hB7.size
  have z5_7 : w5.heap.size < w7.heap.size := by omega
  have c7_5_0 : w7.cell? ⟨w5.heap.size, 0, none⟩ = some (.int .u64 0) := by rw [(bcell hb7).1 _ _ (by first | (simp; done) | (simp; omega) | omega)]; simp [go_sem, c6_5_0, z5_6]
  have c7_5_1 : w7.cell? ⟨w5.heap.size, 1, none⟩ = some (.int .u64 1) := by rw [(bcell hb7).1 _ _ (by first | (simp; done) | (simp; omega) | omega)]; simp [go_sem, c6_5_1, z5_6]
  have z6_7 : w6.heap.size < w7.heap.size := by omega
  have c7_6_0 : w7.cell? ⟨w6.heap.size, 0, none⟩ = some (.int .u64 0) := by rw [(bcell hb7).1 _ _ (by first | (simp; done) | (simp; omega) | omega)]; simp [go_sem]
  have c7_6_1 : w7.cell? ⟨w6.heap.size, 1, none⟩ = some (.int .u64 1) := by rw [(bcell hb7).1 _ _ (by first | (simp; done) | (simp; omega) | omega)]; simp [go_sem]
  clear hb7
  clear c6_1_0 c6_1_1 c6_2_0 c6_2_1 c6_3_0 c6_3_1 c6_4_0 c6_4_1 c6_5_0 c6_5_1
  clear hB6
  go_wp2_with fail
  refine (c_shl2 _).mono ?_
  rintro e w8 ⟨rfl, hb8⟩
  have s8 := hb8.size; try simp at s8
  have hB8 : Below w.heap.size w w8 := hB7.trans (hb8.mono (by omega))
  have y8 : w.heap.size ≤ w8.heap.size := hB8.size
  have z5_8 : w5.heap.size < w8.heap.size := by omega
  have c8_5_0 : w8.cell? ⟨w5.heap.size, 0, none⟩ = some (.int .u64 0) := by rw [(bcell hb8).1 _ _ (by first | (simp; done) | (simp; omega) | omega)]; simp [go_sem, c7_5_0]
  have c8_5_1 : w8.cell? ⟨w5.heap.size, 1, none⟩ = some (.int .u64 1) := by rw [(bcell hb8).1 _ _ (by first | (simp; done) | (simp; omega) | omega)]; simp [go_sem, c7_5_1]
  have z6_8 : w6.heap.size < w8.heap.size := by omega
  have c8_6_0 : w8.cell? ⟨w6.heap.size, 0, none⟩ = some (.int .u64 0) := by rw [(bcell hb8).1 _ _ (by first | (simp; done) | (simp; omega) | omega)]; simp [go_sem, c7_6_0]
  have c8_6_1 : w8.cell? ⟨w6.heap.size, 1, none⟩ = some (.int .u64 1) := by rw [(bcell hb8).1 _ _ (by first | (simp; done) | (simp; omega) | omega)]; simp [go_sem, c7_6_1]
  clear hb8
  clear c7_5_0 c7_5_1 c7_6_0 c7_6_1
  clear hB7
  go_wp2_with fail
  refine (c_len _).mono ?_
  rintro e w9 ⟨rfl, hb9⟩
  have s9 := hb9.size; try simp at s9
  have hB9 : Below w.heap.size w w9 := hB8.trans (hb9.mono (by omega))
  have y9 : w.heap.size ≤ w9.heap.size := hB9.size
  clear hb9
  clear c8_5_0 c8_5_1 c8_6_0 c8_6_1
  clear hB8
  go_wp2_with fail
  refine (c_div1 _).mono ?_
  rintro e w10 ⟨rfl, hb10⟩
  have s10 := hb10.size; try simp at s10
  have hB10 : Below w.heap.size w w10 := hB9.trans (hb10.mono (by omega))
  have y10 : w.heap.size ≤ w10.heap.size := hB10.size
  clear hb10
  clear hB9
  go_wp2_with fail
  refine (c_div2 _).mono ?_
  rintro e w11 ⟨rfl, hb11⟩
  have s11 := hb11.size; try simp at s11
  have hB11 : Below w.heap.size w w11 := (hB10.alloc (by omega) _).trans (hb11.mono (by simp; omega))
  have y11 : w.heap.size ≤ w11.heap.size := hB11.size
  have z10_11 : w10.heap.size < w11.heap.size := by omega
  have c11_10_0 : w11.cell? ⟨w10.heap.size, 0, none⟩ = some (.int .u64 0) := by rw [(bcell hb11).1 _ _ (by first | (simp; done) | (simp; omega) | omega)]; simp [go_sem]
  have c11_10_1 : w11.cell? ⟨w10.heap.size, 1, none⟩ = some (.int .u64 9223372036854775808) := by rw [(bcell hb11).1 _ _ (by first | (simp; done) | (simp; omega) | omega)]; simp [go_sem]
  clear hb11
  clear hB10
  go_wp2_with fail
  refine (c_div3 _).mono ?_
  rintro e w12 ⟨rfl, hb12⟩
  have s12 := hb12.size; try simp at s12
  have hB12 : Below w.heap.size w w12 := (hB11.alloc (by omega) _).trans (hb12.mono (by simp; omega))
  have y12 : w.heap.size ≤ w12.heap.size := hB12.size
  have z10_12 : w10.heap.size < w12.heap.size := by omega
  have c12_10_0 : w12.cell? ⟨w10.heap.size, 0, none⟩ = some (.int .u64 0) := by rw [(bcell hb12).1 _ _ (by first | (simp; done) | (simp; omega) | omega)]; simp [go_sem, c11_10_0, z10_11]
  have c12_10_1 : w12.cell? ⟨w10.heap.size, 1, none⟩ = some (.int .u64 9223372036854775808) := by rw [(bcell hb12).1 _ _ (by first | (simp; done) | (simp; omega) | omega)]; simp [go_sem, c11_10_1, z10_11]
  have z11_12 : w11.heap.size < w12.heap.size := by omega
  have c12_11_0 : w12.cell? ⟨w11.heap.size, 0, none⟩ = some (.int .u64 0) := by rw [(bcell hb12).1 _ _ (by first | (simp; done) | (simp; omega) | omega)]; simp [go_sem]
  have c12_11_1 : w12.cell? ⟨w11.heap.size, 1, none⟩ = some (.int .u64 3) := by rw [(bcell hb12).1 _ _ (by first | (simp; done) | (simp; omega) | omega)]; simp [go_sem]
  clear hb12
  clear c11_10_0 c11_10_1
  clear hB11
  go_wp2_with fail
  refine (c_root1 _).mono ?_
  rintro e w13 ⟨rfl, hb13⟩
  have s13 := hb13.size; try simp at s13
  have hB13 : Below w.heap.size w w13 := (hB12.alloc (by omega) _).trans (hb13.mono (by simp; omega))
  have y13 : w.heap.size ≤ w13.heap.size := hB13.size
  have z10_13 : w10.heap.size < w13.heap.size := by omega
  have c13_10_0 : w13.cell? ⟨w10.heap.size, 0, none⟩ = some (.int .u64 0) := by rw [(bcell hb13).1 _ _ (by first | (simp; done) | (simp; omega) | omega)]; simp [go_sem, c12_10_0, z10_12]
  have c13_10_1 : w13.cell? ⟨w10.heap.size, 1, none⟩ = some (.int .u64 9223372036854775808) := by rw [(bcell hb13).1 _ _ (by first | (simp; done) | (simp; omega) | omega)]; simp [go_sem, c12_10_1, z10_12]
  have z11_13 : w11.heap.size < w13.heap.size := by omega
  have c13_11_0 : w13.cell? ⟨w11.heap.size, 0, none⟩ = some (.int .u64 0) := by rw [(bcell hb13).1 _ _ (by first | (simp; done) | (simp; omega) | omega)]; simp [go_sem, c12_11_0, z11_12]
  have c13_11_1 : w13.cell? ⟨w11.heap.size, 1, none⟩ = some (.int .u64 3) := by rw [(bcell hb13).1 _ _ (by first | (simp; done) | (simp; omega) | omega)]; simp [go_sem, c12_11_1, z11_12]
  clear hb13
  clear c12_10_0 c12_10_1 c12_11_0 c12_11_1
  clear hB12
  go_wp2_with fail
  refine (c_root2 _).mono ?_
  rintro e w14 ⟨rfl, hb14⟩
  have s14 := hb14.size; try simp at s14
  have hB14 : Below w.heap.size w w14 := hB13.trans (hb14.mono (by omega))
  have y14 : w.heap.size ≤ w14.heap.size := hB14.size
  have z10_14 : w10.heap.size < w14.heap.size := by omega
  have c14_10_0 : w14.cell? ⟨w10.heap.size, 0, none⟩ = some (.int .u64 0) := by rw [(bcell hb14).1 _ _ (by first | (simp; done) | (simp; omega) | omega)]; simp [go_sem, c13_10_0]
  have c14_10_1 : w14.cell? ⟨w10.heap.size, 1, none⟩ = some (.int .u64 9223372036854775808) := by rw [(bcell hb14).1 _ _ (by first | (simp; done) | (simp; omega) | omega)]; simp [go_sem, c13_10_1]
  have z11_14 : w11.heap.size < w14.heap.size := by omega
  have c14_11_0 : w14.cell? ⟨w11.heap.size, 0, none⟩ = some (.int .u64 0) := by rw [(bcell hb14).1 _ _ (by first | (simp; done) | (simp; omega) | omega)]; simp [go_sem, c13_11_0]
  have c14_11_1 : w14.cell? ⟨w11.heap.size, 1, none⟩ = some (.int .u64 3) := by rw [(bcell hb14).1 _ _ (by first | (simp; done) | (simp; omega) | omega)]; simp [go_sem, c13_11_1]
  clear hb14
  clear c13_10_0 c13_10_1 c13_11_0 c13_11_1
  clear hB13
  go_wp2_with fail
  refine (c_times _).mono ?_
  rintro e w15 ⟨rfl, hb15⟩
  have s15 := hb15.size; try simp at s15
  have hB15 : Below w.heap.size w w15 := hB14.trans (hb15.mono (by omega))
  have y15 : w.heap.size ≤ w15.heap.size := hB15.size
  have z10_15 : w10.heap.size < w15.heap.size := by omega
  have c15_10_0 : w15.cell? ⟨w10.heap.size, 0, none⟩ = some (.int .u64 0) := by rw [(bcell hb15).1 _ _ (by first | (simp; done) | (simp; omega) | omega)]; simp [go_sem, c14_10_0]
  have c15_10_1 : w15.cell? ⟨w10.heap.size, 1, none⟩ = some (.int .u64 9223372036854775808) := by rw [(bcell hb15).1 _ _ (by first | (simp; done) | (simp; omega) | omega)]; simp [go_sem, c14_10_1]
  have z11_15 : w11.heap.size < w15.heap.size := by omega
  have c15_11_0 : w15.cell? ⟨w11.heap.size, 0, none⟩ = some (.int .u64 0) := by rw [(bcell hb15).1 _ _ (by first | (simp; done) | (simp; omega) | omega)]; simp [go_sem, c14_11_0]
  have c15_11_1 : w15.cell? ⟨w11.heap.size, 1, none⟩ = some (.int .u64 3) := by rw [(bcell hb15).1 _ _ (by first | (simp; done) | (simp; omega) | omega)]; simp [go_sem, c14_11_1]
  clear hb15
  clear c14_10_0 c14_10_1 c14_11_0 c14_11_1
  clear hB14
  go_wp2_with fail
  refine (c_drop1 _).mono ?_
  rintro e w16 ⟨rfl, hb16⟩
  have s16 := hb16.size; try simp at s16
  have hB16 : Below w.heap.size w w16 := (hB15.alloc (by omega) _).trans (hb16.mono (by simp; omega))
  have y16 : w.heap.size ≤ w16.heap.size := hB16.size
  have z10_16 : w10.heap.size < w16.heap.size := by omega
  have c16_10_0 : w16.cell? ⟨w10.heap.size, 0, none⟩ = some (.int .u64 0) := by rw [(bcell hb16).1 _ _ (by first | (simp; done) | (simp; omega) | omega)]; simp [go_sem, c15_10_0, z10_15]
  have c16_10_1 : w16.cell? ⟨w10.heap.size, 1, none⟩ = some (.int .u64 9223372036854775808) := by rw [(bcell hb16).1 _ _ (by first | (simp; done) | (simp; omega) | omega)]; simp [go_sem, c15_10_1, z10_15]
  have z11_16 : w11.heap.size < w16.heap.size := by omega
  have c16_11_0 : w16.cell? ⟨w11.heap.size, 0, none⟩ = some (.int .u64 0) := by rw [(bcell hb16).1 _ _ (by first | (simp; done) | (simp; omega) | omega)]; simp [go_sem, c15_11_0, z11_15]
  have c16_11_1 : w16.cell? ⟨w11.heap.size, 1, none⟩ = some (.int .u64 3) := by rw [(bcell hb16).1 _ _ (by first | (simp; done) | (simp; omega) | omega)]; simp [go_sem, c15_11_1, z11_15]
  have z15_16 : w15.heap.size < w16.heap.size := by omega
  have c16_15_0 : w16.cell? ⟨w15.heap.size, 0, none⟩ = some (.int .u64 1) := by rw [(bcell hb16).1 _ _ (by first | (simp; done) | (simp; omega) | omega)]; simp [go_sem]
  have c16_15_1 : w16.cell? ⟨w15.heap.size, 1, none⟩ = some (.int .u64 18446744073709551615) := by rw [(bcell hb16).1 _ _ (by first | (simp; done) | (simp; omega) | omega)]; simp [go_sem]
  have c16_15_2 : w16.cell? ⟨w15.heap.size, 2, none⟩ = some (.int .u64 18446744073709551614) := by rw [(bcell hb16).1 _ _ (by first | (simp; done) | (simp; omega) | omega)]; simp [go_sem]
  clear hb16
  clear c15_10_0 c15_10_1 c15_11_0 c15_11_1
  clear hB15
  go_wp2_with fail
  refine (c_drop2 _).mono ?_
  rintro e w17 ⟨rfl, hb17⟩
  have s17 := hb17.size; try simp at s17
  have hB17 : Below w.heap.size w w17 := (hB16.alloc (by omega) _).trans (hb17.mono (by simp; omega))
  have y17 : w.heap.size ≤ w17.heap.size := hB17.size
  have z10_17 : w10.heap.size < w17.heap.size := by omega
  have c17_10_0 : w17.cell? ⟨w10.heap.size, 0, none⟩ = some (.int .u64 0) := by rw [(bcell hb17).1 _ _ (by first | (simp; done) | (simp; omega) | omega)]; simp [go_sem, c16_10_0, z10_16]
  have c17_10_1 : w17.cell? ⟨w10.heap.size, 1, none⟩ = some (.int .u64 9223372036854775808) := by rw [(bcell hb17).1 _ _ (by first | (simp; done) | (simp; omega) | omega)]; simp [go_sem, c16_10_1, z10_16]
  have z11_17 : w11.heap.size < w17.heap.size := by omega
  have c17_11_0 : w17.cell? ⟨w11.heap.size, 0, none⟩ = some (.int .u64 0) := by rw [(bcell hb17).1 _ _ (by first | (simp; done) | (simp; omega) | omega)]; simp [go_sem, c16_11_0, z11_16]
  have c17_11_1 : w17.cell? ⟨w11.heap.size, 1, none⟩ = some (.int .u64 3) := by rw [(bcell hb17).1 _ _ (by first | (simp; done) | (simp; omega) | omega)]; simp [go_sem, c16_11_1, z11_16]
  have z15_17 : w15.heap.size < w17.heap.size := by omega
  have c17_15_0 : w17.cell? ⟨w15.heap.size, 0, none⟩ = some (.int .u64 1) := by rw [(bcell hb17).1 _ _ (by first | (simp; done) | (simp; omega) | omega)]; simp [go_sem, c16_15_0, z15_16]
  have c17_15_1 : w17.cell? ⟨w15.heap.size, 1, none⟩ = some (.int .u64 18446744073709551615) := by rw [(bcell hb17).1 _ _ (by first | (simp; done) | (simp; omega) | omega)]; simp [go_sem, c16_15_1, z15_16]
  have c17_15_2 : w17.cell? ⟨w15.heap.size, 2, none⟩ = some (.int .u64 18446744073709551614) := by rw [(bcell hb17).1 _ _ (by first | (simp; done) | (simp; omega) | omega)]; simp [go_sem, c16_15_2, z15_16]
  have z16_17 : w16.heap.size < w17.heap.size := by omega
  have c17_16_0 : w17.cell? ⟨w16.heap.size, 0, none⟩ = some (.int .u64 0) := by rw [(bcell hb17).1 _ _ (by first | (simp; done) | (simp; omega) | omega)]; simp [go_sem]
  have c17_16_1 : w17.cell? ⟨w16.heap.size, 1, none⟩ = some (.int .u64 18446744073709551615) := by rw [(bcell hb17).1 _ _ (by first | (simp; done) | (simp; omega) | omega)]; simp [go_sem]
  have c17_16_2 : w17.cell? ⟨w16.heap.size, 2, none⟩ = some (.int .u64 18446744073709551615) := by rw [(bcell hb17).1 _ _ (by first | (simp; done) | (simp; omega) | omega)]; simp [go_sem]
  clear hb17
  clear c16_10_0 c16_10_1 c16_11_0 c16_11_1 c16_15_0 c16_15_1 c16_15_2
  clear hB16
  go_wp2
  go_ret
  exact ⟨rfl, hB17.alloc (by omega) _⟩
end Go.Proofs.Ytogldkjhcmlneaa
