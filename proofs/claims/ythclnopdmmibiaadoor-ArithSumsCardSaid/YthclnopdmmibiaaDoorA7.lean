/-
  The head of chapter 4's statements: the chapter's examples come out as it tells them.
-/
import Derived.Test.YthclnopdmmibiaaDoorA6
namespace Go.Proofs.YthclnopdmmibiaaDoor
open Go.RowKit Go.Shelf

theorem sa0 (w : World) (hT : Tabs w) : Calls Tryd.prog 7 #[.int .u64 4607182418800017408, .int .u64 4368491638549381120] w (WordPost 4607182418800017408 w) := by
  have h := plus_any 4607182418800017408 4368491638549381120 (by decide) (by decide) w hT
  rw [show addV 4607182418800017408 4368491638549381120 = 4607182418800017408 by decide +kernel] at h; exact h
theorem sa1 (w : World) (hT : Tabs w) : Calls Tryd.prog 7 #[.int .u64 4607182418800017409, .int .u64 4368491638549381120] w (WordPost 4607182418800017410 w) := by
  have h := plus_any 4607182418800017409 4368491638549381120 (by decide) (by decide) w hT
  rw [show addV 4607182418800017409 4368491638549381120 = 4607182418800017410 by decide +kernel] at h; exact h
theorem sa2 (w : World) (hT : Tabs w) : Calls Tryd.prog 7 #[.int .u64 4607182418800017408, .int .u64 13830554455654793216] w (WordPost 0 w) := by
  have h := plus_any 4607182418800017408 13830554455654793216 (by decide) (by decide) w hT
  rw [show addV 4607182418800017408 13830554455654793216 = 0 by decide +kernel] at h; exact h
theorem sa3 (w : World) (hT : Tabs w) : Calls Tryd.prog 7 #[.int .u64 9223372036854775808, .int .u64 9223372036854775808] w (WordPost 9223372036854775808 w) := by
  have h := plus_any 9223372036854775808 9223372036854775808 (by decide) (by decide) w hT
  rw [show addV 9223372036854775808 9223372036854775808 = 9223372036854775808 by decide +kernel] at h; exact h
theorem sa4 (w : World) (hT : Tabs w) : Calls Tryd.prog 7 #[.int .u64 9223372036854775808, .int .u64 0] w (WordPost 0 w) := by
  have h := plus_any 9223372036854775808 0 (by decide) (by decide) w hT
  rw [show addV 9223372036854775808 0 = 0 by decide +kernel] at h; exact h
theorem sa5 (w : World) (hT : Tabs w) : Calls Tryd.prog 7 #[.int .u64 9218868437227405312, .int .u64 18442240474082181120] w (WordPost 9221120237041090560 w) := by
  have h := plus_any 9218868437227405312 18442240474082181120 (by decide) (by decide) w hT
  rw [show addV 9218868437227405312 18442240474082181120 = 9221120237041090560 by decide +kernel] at h; exact h
theorem sa6 (w : World) (hT : Tabs w) : Calls Tryd.prog 7 #[.int .u64 9218868437227405312, .int .u64 4617315517961601024] w (WordPost 9218868437227405312 w) := by
  have h := plus_any 9218868437227405312 4617315517961601024 (by decide) (by decide) w hT
  rw [show addV 9218868437227405312 4617315517961601024 = 9218868437227405312 by decide +kernel] at h; exact h
theorem sa7 (w : World) (hT : Tabs w) : Calls Tryd.prog 7 #[.int .u64 9218868437227405311, .int .u64 9218868437227405311] w (WordPost 9218868437227405312 w) := by
  have h := plus_any 9218868437227405311 9218868437227405311 (by decide) (by decide) w hT
  rw [show addV 9218868437227405311 9218868437227405311 = 9218868437227405312 by decide +kernel] at h; exact h
theorem ss0 (w : World) (hT : Tabs w) : Calls Tryd.prog 9 #[.int .u64 4613937818241073152, .int .u64 4617315517961601024] w (WordPost 13835058055282163712 w) := by
  have h := minus_any 4613937818241073152 4617315517961601024 (by decide) (by decide) w hT
  rw [show subV 4613937818241073152 4617315517961601024 = 13835058055282163712 by decide +kernel] at h; exact h
theorem sm0 (w : World) (hT : Tabs w) : Calls Tryd.prog 11 #[.int .u64 4591870180066957722, .int .u64 4613937818241073152] w (WordPost 4599075939470750516 w) := by
  have h := times_any 4591870180066957722 4613937818241073152 (by decide) (by decide) w hT
  rw [show mulV 4591870180066957722 4613937818241073152 = 4599075939470750516 by decide +kernel] at h; exact h
theorem sm1 (w : World) (hT : Tabs w) : Calls Tryd.prog 11 #[.int .u64 9218868437227405312, .int .u64 0] w (WordPost 9221120237041090560 w) := by
  have h := times_any 9218868437227405312 0 (by decide) (by decide) w hT
  rw [show mulV 9218868437227405312 0 = 9221120237041090560 by decide +kernel] at h; exact h
theorem sm2 (w : World) (hT : Tabs w) : Calls Tryd.prog 11 #[.int .u64 9223372036854775808, .int .u64 4617315517961601024] w (WordPost 9223372036854775808 w) := by
  have h := times_any 9223372036854775808 4617315517961601024 (by decide) (by decide) w hT
  rw [show mulV 9223372036854775808 4617315517961601024 = 9223372036854775808 by decide +kernel] at h; exact h
theorem sm3 (w : World) (hT : Tabs w) : Calls Tryd.prog 11 #[.int .u64 1, .int .u64 4602678819172646912] w (WordPost 0 w) := by
  have h := times_any 1 4602678819172646912 (by decide) (by decide) w hT
  rw [show mulV 1 4602678819172646912 = 0 by decide +kernel] at h; exact h
theorem sm4 (w : World) (hT : Tabs w) : Calls Tryd.prog 11 #[.int .u64 1, .int .u64 4604930618986332160] w (WordPost 1 w) := by
  have h := times_any 1 4604930618986332160 (by decide) (by decide) w hT
  rw [show mulV 1 4604930618986332160 = 1 by decide +kernel] at h; exact h

theorem s1 (w : World) (b cap : Nat) (hT : Tabs w) (hb : b < w.heap.size) (h0 : w.cell? ⟨b, 0, none⟩ = some (.int .u64 9223372036854775808)) :
    Calls Tryd.prog 13 #[.slice (some ⟨b, 0, none⟩) 1 cap] w (WordPost 0 w) := by
  have h := sumlist_any [9223372036854775808] b 0 cap w hT (by decide) (by decide) hb (by
    intro i hi
    match i, hi with
    | 0, _ => exact h0)
  rw [show sumV [9223372036854775808] = 0 by decide +kernel] at h; exact h
theorem s2 (w : World) (b cap : Nat) (hT : Tabs w) (hb : b < w.heap.size) (h0 : w.cell? ⟨b, 0, none⟩ = some (.int .u64 4845873199050653696)) (h1 : w.cell? ⟨b, 1, none⟩ = some (.int .u64 4607182418800017408)) (h2 : w.cell? ⟨b, 2, none⟩ = some (.int .u64 4607182418800017408)) :
    Calls Tryd.prog 13 #[.slice (some ⟨b, 0, none⟩) 3 cap] w (WordPost 4845873199050653696 w) := by
  have h := sumlist_any [4845873199050653696, 4607182418800017408, 4607182418800017408] b 0 cap w hT (by decide) (by decide) hb (by
    intro i hi
    match i, hi with
    | 0, _ => exact h0
    | 1, _ => exact h1
    | 2, _ => exact h2)
  rw [show sumV [4845873199050653696, 4607182418800017408, 4607182418800017408] = 4845873199050653696 by decide +kernel] at h; exact h
set_option maxRecDepth 100000 in
set_option maxHeartbeats 4000000 in
theorem shown4_any (w : World) (hT : Tabs w) : Calls Tryd.prog 6 #[] w (TruePost w) := by
  have HT0 := Lib.hid hT
  have HB0 : Hid (Below w.heap.size w w) := Below.refl _ _
  clear hT
  go_enter Tryd.func6, Tryd.ntmps6
  go_wp2_with fail
  refine (sa0 _ HT0.out).mono ?_
  rintro e w1 ⟨rfl, hb1⟩
  have HB1 : Hid (Below w.heap.size w w1) := HB0.out.trans (hb1.mono HB0.out.size)
  have HT1 : Hid (Tabs w1) := HT0.out.below hb1
  clear hb1 HB0 HT0
  go_wp2_with fail
  refine (sa1 _ HT1.out).mono ?_
  rintro e w2 ⟨rfl, hb2⟩
  have HB2 : Hid (Below w.heap.size w w2) := HB1.out.trans (hb2.mono HB1.out.size)
  have HT2 : Hid (Tabs w2) := HT1.out.below hb2
  clear hb2 HB1 HT1
  go_wp2_with fail
  refine (sa2 _ HT2.out).mono ?_
  rintro e w3 ⟨rfl, hb3⟩
  have HB3 : Hid (Below w.heap.size w w3) := HB2.out.trans (hb3.mono HB2.out.size)
  have HT3 : Hid (Tabs w3) := HT2.out.below hb3
  clear hb3 HB2 HT2
  go_wp2_with fail
  refine (sa3 _ HT3.out).mono ?_
  rintro e w4 ⟨rfl, hb4⟩
  have HB4 : Hid (Below w.heap.size w w4) := HB3.out.trans (hb4.mono HB3.out.size)
  have HT4 : Hid (Tabs w4) := HT3.out.below hb4
  clear hb4 HB3 HT3
  go_wp2_with fail
  refine (sa4 _ HT4.out).mono ?_
  rintro e w5 ⟨rfl, hb5⟩
  have HB5 : Hid (Below w.heap.size w w5) := HB4.out.trans (hb5.mono HB4.out.size)
  have HT5 : Hid (Tabs w5) := HT4.out.below hb5
  clear hb5 HB4 HT4
  go_wp2_with fail
  refine (sa5 _ HT5.out).mono ?_
  rintro e w6 ⟨rfl, hb6⟩
  have HB6 : Hid (Below w.heap.size w w6) := HB5.out.trans (hb6.mono HB5.out.size)
  have HT6 : Hid (Tabs w6) := HT5.out.below hb6
  clear hb6 HB5 HT5
  go_wp2_with fail
  refine (sa6 _ HT6.out).mono ?_
  rintro e w7 ⟨rfl, hb7⟩
  have HB7 : Hid (Below w.heap.size w w7) := HB6.out.trans (hb7.mono HB6.out.size)
  have HT7 : Hid (Tabs w7) := HT6.out.below hb7
  clear hb7 HB6 HT6
  go_wp2_with fail
  refine (sa7 _ HT7.out).mono ?_
  rintro e w8 ⟨rfl, hb8⟩
  have HB8 : Hid (Below w.heap.size w w8) := HB7.out.trans (hb8.mono HB7.out.size)
  have HT8 : Hid (Tabs w8) := HT7.out.below hb8
  clear hb8 HB7 HT7
  go_wp2_with fail
  refine (ss0 _ HT8.out).mono ?_
  rintro e w9 ⟨rfl, hb9⟩
  have HB9 : Hid (Below w.heap.size w w9) := HB8.out.trans (hb9.mono HB8.out.size)
  have HT9 : Hid (Tabs w9) := HT8.out.below hb9
  clear hb9 HB8 HT8
  go_wp2_with fail
  refine (sm0 _ HT9.out).mono ?_
  rintro e w10 ⟨rfl, hb10⟩
  have HB10 : Hid (Below w.heap.size w w10) := HB9.out.trans (hb10.mono HB9.out.size)
  have HT10 : Hid (Tabs w10) := HT9.out.below hb10
  clear hb10 HB9 HT9
  go_wp2_with fail
  refine (sm1 _ HT10.out).mono ?_
  rintro e w11 ⟨rfl, hb11⟩
  have HB11 : Hid (Below w.heap.size w w11) := HB10.out.trans (hb11.mono HB10.out.size)
  have HT11 : Hid (Tabs w11) := HT10.out.below hb11
  clear hb11 HB10 HT10
  go_wp2_with fail
  refine (sm2 _ HT11.out).mono ?_
  rintro e w12 ⟨rfl, hb12⟩
  have HB12 : Hid (Below w.heap.size w w12) := HB11.out.trans (hb12.mono HB11.out.size)
  have HT12 : Hid (Tabs w12) := HT11.out.below hb12
  clear hb12 HB11 HT11
  go_wp2_with fail
  refine (sm3 _ HT12.out).mono ?_
  rintro e w13 ⟨rfl, hb13⟩
  have HB13 : Hid (Below w.heap.size w w13) := HB12.out.trans (hb13.mono HB12.out.size)
  have HT13 : Hid (Tabs w13) := HT12.out.below hb13
  clear hb13 HB12 HT12
  go_wp2_with fail
  refine (sm4 _ HT13.out).mono ?_
  rintro e w14 ⟨rfl, hb14⟩
  have HB14 : Hid (Below w.heap.size w w14) := HB13.out.trans (hb14.mono HB13.out.size)
  have HT14 : Hid (Tabs w14) := HT13.out.below hb14
  clear hb14 HB13 HT13
  go_wp2_with fail
  refine (sumnil_any _).mono ?_
  rintro e w15 ⟨rfl, hb15⟩
  have HB15 : Hid (Below w.heap.size w w15) := HB14.out.trans (hb15.mono HB14.out.size)
  have HT15 : Hid (Tabs w15) := HT14.out.below hb15
  clear hb15 HB14 HT14
  go_wp2_with fail
  have HTa : Hid (Tabs (w15.alloc (.cells #[.int .u64 9223372036854775808] 22))) := HT15.out.below ((Below.refl _ _).alloc (Nat.le_refl _) _)
  refine (s1 _ w15.heap.size 1 HTa.out (by simp) (by simp [go_sem])).mono ?_
  rintro e w16 ⟨rfl, hb16⟩
  have HB16 : Hid (Below w.heap.size w w16) := (HB15.out.alloc HB15.out.size _).trans (hb16.mono (by have := HB15.out.size; simp; omega))
  have HT16 : Hid (Tabs w16) := HTa.out.below hb16
  clear hb16 HB15 HT15 HTa
  go_wp2_with fail
  have HTa : Hid (Tabs (w16.alloc (.cells #[.int .u64 4845873199050653696, .int .u64 4607182418800017408, .int .u64 4607182418800017408] 22))) := HT16.out.below ((Below.refl _ _).alloc (Nat.le_refl _) _)
  refine (s2 _ w16.heap.size 3 HTa.out (by simp) (by simp [go_sem]) (by simp [go_sem]) (by simp [go_sem])).mono ?_
  rintro e w17 ⟨rfl, hb17⟩
  have HB17 : Hid (Below w.heap.size w w17) := (HB16.out.alloc HB16.out.size _).trans (hb17.mono (by have := HB16.out.size; simp; omega))
  clear hb17 HB16 HT16 HTa
  go_wp2
  go_ret
  exact ⟨rfl, HB17.out⟩
end Go.Proofs.YthclnopdmmibiaaDoor
