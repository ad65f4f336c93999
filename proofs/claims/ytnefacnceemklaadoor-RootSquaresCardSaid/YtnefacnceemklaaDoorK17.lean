/-
  The head of chapter 5's statements: the chapter's examples come out as it tells them.
-/
import Derived.Test.YtnefacnceemklaaDoorK7
import Derived.Test.YtnefacnceemklaaDoorX8
namespace Go.Proofs.YtnefacnceemklaaDoor
open Go.RowKit Go.Shelf

theorem powU_step {a r : Int} {k q p : Nat} {s : Bool} {t : Int} (h : powU a k p = r) (hp : q / 2 = p) (hs : (q % 2 == 1) = s) (ht : pstep a r s = t) : powU a (k + 1) q = t := by
  show pstep a (powU a k (q / 2)) (q % 2 == 1) = t
  rw [hp, h, hs, ht]
theorem se0 (w : World) (_hT : Tabs w) : Calls Tryd.prog 14 #[.int .u64 4607182418800017408, .int .u64 4613937818241073152] w (WordPost 4599676419421066581 w) := by
  have h := div5_any 4607182418800017408 4613937818241073152 (by decide) (by decide) w
  rw [show divV 4607182418800017408 4613937818241073152 = 4599676419421066581 by decide +kernel] at h; exact h
theorem se1 (w : World) (_hT : Tabs w) : Calls Tryd.prog 14 #[.int .u64 4607182418800017408, .int .u64 9223372036854775808] w (WordPost 18442240474082181120 w) := by
  have h := div5_any 4607182418800017408 9223372036854775808 (by decide) (by decide) w
  rw [show divV 4607182418800017408 9223372036854775808 = 18442240474082181120 by decide +kernel] at h; exact h
theorem se2 (w : World) (_hT : Tabs w) : Calls Tryd.prog 14 #[.int .u64 0, .int .u64 0] w (WordPost 9221120237041090560 w) := by
  have h := div5_any 0 0 (by decide) (by decide) w
  rw [show divV 0 0 = 9221120237041090560 by decide +kernel] at h; exact h
theorem se3 (w : World) (_hT : Tabs w) : Calls Tryd.prog 14 #[.int .u64 13830554455654793216, .int .u64 9218868437227405312] w (WordPost 9223372036854775808 w) := by
  have h := div5_any 13830554455654793216 9218868437227405312 (by decide) (by decide) w
  rw [show divV 13830554455654793216 9218868437227405312 = 9223372036854775808 by decide +kernel] at h; exact h
theorem se4 (w : World) (_hT : Tabs w) : Calls Tryd.prog 14 #[.int .u64 1, .int .u64 4611686018427387904] w (WordPost 0 w) := by
  have h := div5_any 1 4611686018427387904 (by decide) (by decide) w
  rw [show divV 1 4611686018427387904 = 0 by decide +kernel] at h; exact h
theorem se5 (w : World) (_hT : Tabs w) : Calls Tryd.prog 16 #[.int .u64 4611686018427387904] w (WordPost 4609047870845172685 w) := by
  have h := sqrt5_any 4611686018427387904 (by decide) w
  rw [show sqrtV 4611686018427387904 = 4609047870845172685 by decide +kernel] at h; exact h
theorem se6 (w : World) (_hT : Tabs w) : Calls Tryd.prog 16 #[.int .u64 13830554455654793216] w (WordPost 9221120237041090560 w) := by
  have h := sqrt5_any 13830554455654793216 (by decide) w
  rw [show sqrtV 13830554455654793216 = 9221120237041090560 by decide +kernel] at h; exact h
theorem se7 (w : World) (_hT : Tabs w) : Calls Tryd.prog 16 #[.int .u64 9223372036854775808] w (WordPost 9223372036854775808 w) := by
  have h := sqrt5_any 9223372036854775808 (by decide) w
  rw [show sqrtV 9223372036854775808 = 9223372036854775808 by decide +kernel] at h; exact h
theorem se8 (w : World) (_hT : Tabs w) : Calls Tryd.prog 16 #[.int .u64 1] w (WordPost 2188749418902061056 w) := by
  have h := sqrt5_any 1 (by decide) w
  rw [show sqrtV 1 = 2188749418902061056 by decide +kernel] at h; exact h
theorem se9 (w : World) (hT : Tabs w) : Calls Tryd.prog 18 #[.int .u64 4591870180066957722, .int .u64 4621819117588971520, .int .u64 13830554455654793216] w (WordPost 4363988038922010624 w) := by
  have h := fma5_any 4591870180066957722 4621819117588971520 13830554455654793216 (by decide) (by decide) (by decide) w hT
  rw [show fmaV 4591870180066957722 4621819117588971520 13830554455654793216 = 4363988038922010624 by decide +kernel] at h; exact h
theorem se10 (w : World) (hT : Tabs w) : Calls Tryd.prog 18 #[.int .u64 9218868437227405312, .int .u64 0, .int .u64 4607182418800017408] w (WordPost 9221120237041090560 w) := by
  have h := fma5_any 9218868437227405312 0 4607182418800017408 (by decide) (by decide) (by decide) w hT
  rw [show fmaV 9218868437227405312 0 4607182418800017408 = 9221120237041090560 by decide +kernel] at h; exact h
theorem se11 (w : World) (hT : Tabs w) : Calls Tryd.prog 18 #[.int .u64 4607182418800017408, .int .u64 9223372036854775808, .int .u64 0] w (WordPost 0 w) := by
  have h := fma5_any 4607182418800017408 9223372036854775808 0 (by decide) (by decide) (by decide) w hT
  rw [show fmaV 4607182418800017408 9223372036854775808 0 = 0 by decide +kernel] at h; exact h
theorem se12 (w : World) (_hT : Tabs w) : Calls Tryd.prog 20 #[.int .u64 4619567317775286272, .int .u64 4613937818241073152] w (WordPost 4607182418800017408 w) := by
  have h := mod5_any 4619567317775286272 4613937818241073152 (by decide) (by decide) w
  rw [show modV 4619567317775286272 4613937818241073152 = 4607182418800017408 by decide +kernel] at h; exact h
theorem se13 (w : World) (_hT : Tabs w) : Calls Tryd.prog 20 #[.int .u64 13842939354630062080, .int .u64 4613937818241073152] w (WordPost 13830554455654793216 w) := by
  have h := mod5_any 13842939354630062080 4613937818241073152 (by decide) (by decide) w
  rw [show modV 13842939354630062080 4613937818241073152 = 13830554455654793216 by decide +kernel] at h; exact h
theorem se14 (w : World) (_hT : Tabs w) : Calls Tryd.prog 20 #[.int .u64 9094988921128908188, .int .u64 4619567317775286272] w (WordPost 4607182418800017408 w) := by
  have h := mod5_any 9094988921128908188 4619567317775286272 (by decide) (by decide) w
  rw [show modV 9094988921128908188 4619567317775286272 = 4607182418800017408 by decide +kernel] at h; exact h
theorem se15 (w : World) (_hT : Tabs w) : Calls Tryd.prog 20 #[.int .u64 13841813454723219456, .int .u64 4613937818241073152] w (WordPost 9223372036854775808 w) := by
  have h := mod5_any 13841813454723219456 4613937818241073152 (by decide) (by decide) w
  rw [show modV 13841813454723219456 4613937818241073152 = 9223372036854775808 by decide +kernel] at h; exact h
theorem se16 (w : World) (_hT : Tabs w) : Calls Tryd.prog 20 #[.int .u64 4607182418800017408, .int .u64 0] w (WordPost 9221120237041090560 w) := by
  have h := mod5_any 4607182418800017408 0 (by decide) (by decide) w
  rw [show modV 4607182418800017408 0 = 9221120237041090560 by decide +kernel] at h; exact h
theorem se17 (w : World) (_hT : Tabs w) : Calls Tryd.prog 20 #[.int .u64 4617315517961601024, .int .u64 9218868437227405312] w (WordPost 4617315517961601024 w) := by
  have h := mod5_any 4617315517961601024 9218868437227405312 (by decide) (by decide) w
  rw [show modV 4617315517961601024 9218868437227405312 = 4617315517961601024 by decide +kernel] at h; exact h
theorem pu18 : powU 4611686018427387904 64 10 = 4652218415073722368 := by
  have h0 : powU 4611686018427387904 0 0 = 4607182418800017408 := rfl
  have h1 : powU 4611686018427387904 1 1 = 4611686018427387904 := powU_step h0 (by decide) (s := true) (by decide) (by decide +kernel)
  have h2 : powU 4611686018427387904 2 2 = 4616189618054758400 := powU_step h1 (by decide) (s := false) (by decide) (by decide +kernel)
  have h3 : powU 4611686018427387904 3 5 = 4629700416936869888 := powU_step h2 (by decide) (s := true) (by decide) (by decide +kernel)
  have h4 : powU 4611686018427387904 4 10 = 4652218415073722368 := powU_step h3 (by decide) (s := false) (by decide) (by decide +kernel)
  rw [show (64 : Nat) = 4 + 60 from rfl, powU_any 4611686018427387904 (k := 4) (by decide) 60]
  exact h4
theorem pv18 : powerV 4611686018427387904 10 = 4652218415073722368 := by
  unfold powerV
  rw [if_neg (by decide), if_neg (by decide), show (10 : Int).toNat = 10 from rfl, pu18]
theorem se18 (w : World) (hT : Tabs w) : Calls Tryd.prog 22 #[.int .u64 4611686018427387904, .int .i64 10] w (WordPost 4652218415073722368 w) := by
  have h := power5_any 4611686018427387904 10 (by decide) (by decide) (by decide) w hT
  rw [pv18] at h; exact h
theorem pu19 : powU 4611686018427387904 64 1074 = 9218868437227405312 := by
  have h0 : powU 4611686018427387904 0 0 = 4607182418800017408 := rfl
  have h1 : powU 4611686018427387904 1 1 = 4611686018427387904 := powU_step h0 (by decide) (s := true) (by decide) (by decide +kernel)
  have h2 : powU 4611686018427387904 2 2 = 4616189618054758400 := powU_step h1 (by decide) (s := false) (by decide) (by decide +kernel)
  have h3 : powU 4611686018427387904 3 4 = 4625196817309499392 := powU_step h2 (by decide) (s := false) (by decide) (by decide +kernel)
  have h4 : powU 4611686018427387904 4 8 = 4643211215818981376 := powU_step h3 (by decide) (s := false) (by decide) (by decide +kernel)
  have h5 : powU 4611686018427387904 5 16 = 4679240012837945344 := powU_step h4 (by decide) (s := false) (by decide) (by decide +kernel)
  have h6 : powU 4611686018427387904 6 33 = 4755801206503243776 := powU_step h5 (by decide) (s := true) (by decide) (by decide +kernel)
  have h7 : powU 4611686018427387904 7 67 = 4908923593833840640 := powU_step h6 (by decide) (s := true) (by decide) (by decide +kernel)
  have h8 : powU 4611686018427387904 8 134 = 5210664768867663872 := powU_step h7 (by decide) (s := false) (by decide) (by decide +kernel)
  have h9 : powU 4611686018427387904 9 268 = 5814147118935310336 := powU_step h8 (by decide) (s := false) (by decide) (by decide +kernel)
  have h10 : powU 4611686018427387904 10 537 = 7025615418697973760 := powU_step h9 (by decide) (s := true) (by decide) (by decide +kernel)
  have h11 : powU 4611686018427387904 11 1074 = 9218868437227405312 := powU_step h10 (by decide) (s := false) (by decide) (by decide +kernel)
  rw [show (64 : Nat) = 11 + 53 from rfl, powU_any 4611686018427387904 (k := 11) (by decide) 53]
  exact h11
theorem pv19 : powerV 4611686018427387904 (-1074) = 0 := by
  unfold powerV
  rw [if_neg (by decide), if_pos (by decide), show (-(-1074) : Int).toNat = 1074 from rfl, pu19]
  decide +kernel
theorem se19 (w : World) (hT : Tabs w) : Calls Tryd.prog 22 #[.int .u64 4611686018427387904, .int .i64 (-1074)] w (WordPost 0 w) := by
  have h := power5_any 4611686018427387904 (-1074) (by decide) (by decide) (by decide) w hT
  rw [pv19] at h; exact h
theorem pu20 : powU 0 64 0 = 4607182418800017408 := by
  have h0 : powU 0 0 0 = 4607182418800017408 := rfl
  rw [show (64 : Nat) = 0 + 64 from rfl, powU_any 0 (k := 0) (by decide) 64]
  exact h0
theorem pv20 : powerV 0 0 = 4607182418800017408 := by
  unfold powerV
  rw [if_neg (by decide), if_neg (by decide), show (0 : Int).toNat = 0 from rfl, pu20]
theorem se20 (w : World) (hT : Tabs w) : Calls Tryd.prog 22 #[.int .u64 0, .int .i64 0] w (WordPost 4607182418800017408 w) := by
  have h := power5_any 0 0 (by decide) (by decide) (by decide) w hT
  rw [pv20] at h; exact h
theorem pu21 : powU 4621819117588971520 64 23 = 4950912855330343670 := by
  have h0 : powU 4621819117588971520 0 0 = 4607182418800017408 := rfl
  have h1 : powU 4621819117588971520 1 1 = 4621819117588971520 := powU_step h0 (by decide) (s := true) (by decide) (by decide +kernel)
  have h2 : powU 4621819117588971520 2 2 = 4636737291354636288 := powU_step h1 (by decide) (s := false) (by decide) (by decide +kernel)
  have h3 : powU 4621819117588971520 3 5 = 4681608360884174848 := powU_step h2 (by decide) (s := true) (by decide) (by decide +kernel)
  have h4 : powU 4621819117588971520 4 11 = 4771362005757984768 := powU_step h3 (by decide) (s := true) (by decide) (by decide +kernel)
  have h5 : powU 4621819117588971520 5 23 = 4950912855330343670 := powU_step h4 (by decide) (s := true) (by decide) (by decide +kernel)
  rw [show (64 : Nat) = 5 + 59 from rfl, powU_any 4621819117588971520 (k := 5) (by decide) 59]
  exact h5
theorem pv21 : powerV 4621819117588971520 23 = 4950912855330343670 := by
  unfold powerV
  rw [if_neg (by decide), if_neg (by decide), show (23 : Int).toNat = 23 from rfl, pu21]
theorem se21 (w : World) (hT : Tabs w) : Calls Tryd.prog 22 #[.int .u64 4621819117588971520, .int .i64 23] w (WordPost 4950912855330343670 w) := by
  have h := power5_any 4621819117588971520 23 (by decide) (by decide) (by decide) w hT
  rw [pv21] at h; exact h
set_option maxRecDepth 100000 in
set_option maxHeartbeats 8000000 in
theorem shown5_any (w : World) (hT : Tabs w) : Calls Tryd.prog 13 #[] w (TruePost w) := by
  have HT0 := Lib.hid hT
  have HB0 : Hid (Below w.heap.size w w) := Below.refl _ _
  clear hT
  go_enter Tryd.func13, Tryd.ntmps13
  go_wp2_with fail
  refine (se0 _ HT0.out).mono ?_
  rintro en w1 ⟨rfl, hb1⟩
  have HB1 : Hid (Below w.heap.size w w1) := HB0.out.trans (hb1.mono HB0.out.size)
  have HT1 : Hid (Tabs w1) := HT0.out.below hb1
  clear hb1 HB0 HT0
  go_wp2_with fail
  refine (se1 _ HT1.out).mono ?_
  rintro en w2 ⟨rfl, hb2⟩
  have HB2 : Hid (Below w.heap.size w w2) := HB1.out.trans (hb2.mono HB1.out.size)
  have HT2 : Hid (Tabs w2) := HT1.out.below hb2
  clear hb2 HB1 HT1
  go_wp2_with fail
  refine (se2 _ HT2.out).mono ?_
  rintro en w3 ⟨rfl, hb3⟩
  have HB3 : Hid (Below w.heap.size w w3) := HB2.out.trans (hb3.mono HB2.out.size)
  have HT3 : Hid (Tabs w3) := HT2.out.below hb3
  clear hb3 HB2 HT2
  go_wp2_with fail
  refine (se3 _ HT3.out).mono ?_
  rintro en w4 ⟨rfl, hb4⟩
  have HB4 : Hid (Below w.heap.size w w4) := HB3.out.trans (hb4.mono HB3.out.size)
  have HT4 : Hid (Tabs w4) := HT3.out.below hb4
  clear hb4 HB3 HT3
  go_wp2_with fail
  refine (se4 _ HT4.out).mono ?_
  rintro en w5 ⟨rfl, hb5⟩
  have HB5 : Hid (Below w.heap.size w w5) := HB4.out.trans (hb5.mono HB4.out.size)
  have HT5 : Hid (Tabs w5) := HT4.out.below hb5
  clear hb5 HB4 HT4
  go_wp2_with fail
  refine (se5 _ HT5.out).mono ?_
  rintro en w6 ⟨rfl, hb6⟩
  have HB6 : Hid (Below w.heap.size w w6) := HB5.out.trans (hb6.mono HB5.out.size)
  have HT6 : Hid (Tabs w6) := HT5.out.below hb6
  clear hb6 HB5 HT5
  go_wp2_with fail
  refine (se6 _ HT6.out).mono ?_
  rintro en w7 ⟨rfl, hb7⟩
  have HB7 : Hid (Below w.heap.size w w7) := HB6.out.trans (hb7.mono HB6.out.size)
  have HT7 : Hid (Tabs w7) := HT6.out.below hb7
  clear hb7 HB6 HT6
  go_wp2_with fail
  refine (se7 _ HT7.out).mono ?_
  rintro en w8 ⟨rfl, hb8⟩
  have HB8 : Hid (Below w.heap.size w w8) := HB7.out.trans (hb8.mono HB7.out.size)
  have HT8 : Hid (Tabs w8) := HT7.out.below hb8
  clear hb8 HB7 HT7
  go_wp2_with fail
  refine (se8 _ HT8.out).mono ?_
  rintro en w9 ⟨rfl, hb9⟩
  have HB9 : Hid (Below w.heap.size w w9) := HB8.out.trans (hb9.mono HB8.out.size)
  have HT9 : Hid (Tabs w9) := HT8.out.below hb9
  clear hb9 HB8 HT8
  go_wp2_with fail
  refine (se9 _ HT9.out).mono ?_
  rintro en w10 ⟨rfl, hb10⟩
  have HB10 : Hid (Below w.heap.size w w10) := HB9.out.trans (hb10.mono HB9.out.size)
  have HT10 : Hid (Tabs w10) := HT9.out.below hb10
  clear hb10 HB9 HT9
  go_wp2_with fail
  refine (se10 _ HT10.out).mono ?_
  rintro en w11 ⟨rfl, hb11⟩
  have HB11 : Hid (Below w.heap.size w w11) := HB10.out.trans (hb11.mono HB10.out.size)
  have HT11 : Hid (Tabs w11) := HT10.out.below hb11
  clear hb11 HB10 HT10
  go_wp2_with fail
  refine (se11 _ HT11.out).mono ?_
  rintro en w12 ⟨rfl, hb12⟩
  have HB12 : Hid (Below w.heap.size w w12) := HB11.out.trans (hb12.mono HB11.out.size)
  have HT12 : Hid (Tabs w12) := HT11.out.below hb12
  clear hb12 HB11 HT11
  go_wp2_with fail
  refine (se12 _ HT12.out).mono ?_
  rintro en w13 ⟨rfl, hb13⟩
  have HB13 : Hid (Below w.heap.size w w13) := HB12.out.trans (hb13.mono HB12.out.size)
  have HT13 : Hid (Tabs w13) := HT12.out.below hb13
  clear hb13 HB12 HT12
  go_wp2_with fail
  refine (se13 _ HT13.out).mono ?_
  rintro en w14 ⟨rfl, hb14⟩
  have HB14 : Hid (Below w.heap.size w w14) := HB13.out.trans (hb14.mono HB13.out.size)
  have HT14 : Hid (Tabs w14) := HT13.out.below hb14
  clear hb14 HB13 HT13
  go_wp2_with fail
  refine (se14 _ HT14.out).mono ?_
  rintro en w15 ⟨rfl, hb15⟩
  have HB15 : Hid (Below w.heap.size w w15) := HB14.out.trans (hb15.mono HB14.out.size)
  have HT15 : Hid (Tabs w15) := HT14.out.below hb15
  clear hb15 HB14 HT14
  go_wp2_with fail
  refine (se15 _ HT15.out).mono ?_
  rintro en w16 ⟨rfl, hb16⟩
  have HB16 : Hid (Below w.heap.size w w16) := HB15.out.trans (hb16.mono HB15.out.size)
  have HT16 : Hid (Tabs w16) := HT15.out.below hb16
  clear hb16 HB15 HT15
  go_wp2_with fail
  refine (se16 _ HT16.out).mono ?_
  rintro en w17 ⟨rfl, hb17⟩
  have HB17 : Hid (Below w.heap.size w w17) := HB16.out.trans (hb17.mono HB16.out.size)
  have HT17 : Hid (Tabs w17) := HT16.out.below hb17
  clear hb17 HB16 HT16
  go_wp2_with fail
  refine (se17 _ HT17.out).mono ?_
  rintro en w18 ⟨rfl, hb18⟩
  have HB18 : Hid (Below w.heap.size w w18) := HB17.out.trans (hb18.mono HB17.out.size)
  have HT18 : Hid (Tabs w18) := HT17.out.below hb18
  clear hb18 HB17 HT17
  go_wp2_with fail
  refine (se18 _ HT18.out).mono ?_
  rintro en w19 ⟨rfl, hb19⟩
  have HB19 : Hid (Below w.heap.size w w19) := HB18.out.trans (hb19.mono HB18.out.size)
  have HT19 : Hid (Tabs w19) := HT18.out.below hb19
  clear hb19 HB18 HT18
  go_wp2_with fail
  refine (se19 _ HT19.out).mono ?_
  rintro en w20 ⟨rfl, hb20⟩
  have HB20 : Hid (Below w.heap.size w w20) := HB19.out.trans (hb20.mono HB19.out.size)
  have HT20 : Hid (Tabs w20) := HT19.out.below hb20
  clear hb20 HB19 HT19
  go_wp2_with fail
  refine (se20 _ HT20.out).mono ?_
  rintro en w21 ⟨rfl, hb21⟩
  have HB21 : Hid (Below w.heap.size w w21) := HB20.out.trans (hb21.mono HB20.out.size)
  have HT21 : Hid (Tabs w21) := HT20.out.below hb21
  clear hb21 HB20 HT20
  go_wp2_with fail
  refine (se21 _ HT21.out).mono ?_
  rintro en w22 ⟨rfl, hb22⟩
  have HB22 : Hid (Below w.heap.size w w22) := HB21.out.trans (hb22.mono HB21.out.size)
  have HT22 : Hid (Tabs w22) := HT21.out.below hb22
  clear hb22 HB21 HT21
  go_wp2
  go_ret
  exact ⟨rfl, HB22.out⟩
end Go.Proofs.YtnefacnceemklaaDoor
