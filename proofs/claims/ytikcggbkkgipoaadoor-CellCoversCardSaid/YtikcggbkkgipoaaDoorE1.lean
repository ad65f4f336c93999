/-
  Package cell: Print: walked.
-/
import Derived.Test.YtikcggbkkgipoaaDoorD2
import Derived.Lib.AppendIntMem
import Derived.Lib.SmallJoins
namespace Go.Proofs.YtikcggbkkgipoaaDoor
open Go.RowKit Go.Shelf

/-- The table that Itoa reads stands in the memory. -/
def Tabs (w : World) : Prop := Lib.TabIs Tryd.prog w "internal/strconv.uint64pow10" .u64 Lib.pow10Tab
theorem gPow : Tryd.prog.globalNamed "internal/strconv.uint64pow10" = some 0 := by kernel_rfl
theorem Tabs.below {w w' : World} (h : Tabs w) (hb : Below w.heap.size w w') : Tabs w' := Joins.tab_stays gPow h hb (Nat.le_refl _)
/-- A column's name. -/
def colN (c : Int) : List UInt8 := if c < 26 then [UInt8.ofNat (65 + c).toNat] else [UInt8.ofNat (64 + c / 26).toNat, UInt8.ofNat (65 + c % 26).toNat]
def dol (x : Bool) : List UInt8 := if x = true then [36] else []
/-- What a reference is written as. -/
def prtV (c r : Int) (x y : Bool) : List UInt8 := if rgt c r = true then dol x ++ colN c ++ dol y ++ Lib.decDigits (r + 1).toNat else []
def StrPost (l : List UInt8) (w : World) (e : Ending) (w' : World) : Prop := ∃ S : ByteArray, e = .returned (.string S) ∧ S.data.toList = l ∧ Below w.heap.size w w'
theorem itoa_any (n : Int) (w : World) (n0 : 0 ≤ n) (n1 : n ≤ 100000) (T : Tabs w) : Calls Tryd.prog 34 #[.int .i64 n] w (StrPost (Lib.decDigits n.toNat) w) := by
  refine (Tryd.strconv_Itoa n (by omega) (by omega) w T).mono ?_
  rintro e w' ⟨rfl, k, os, rfl⟩
  refine ⟨_, rfl, ?_, Lib.below_grow _ _ (Nat.le_refl _) _ _⟩
  unfold Lib.itoa
  rw [if_neg (by omega)]
theorem enc_at (z : Int) (h0 : 60 ≤ z) (h1 : z < 100) : Utf8.encode z = ⟨#[UInt8.ofNat z.toNat]⟩ := by
  obtain ⟨n, rfl⟩ : ∃ n : Nat, z = (n : Int) := ⟨z.toNat, by omega⟩
  have key : ∀ k : Nat, k < 40 → Utf8.encode (((60 + k : Nat) : Int)) = ⟨#[UInt8.ofNat (((60 + k : Nat) : Int)).toNat]⟩ := by decide +kernel
  have := key (n - 60) (by omega)
  rw [show 60 + (n - 60) = n by omega] at this
  exact this
theorem enc_of (z : Int) (h0 : 60 ≤ z) (h1 : z < 100) : ∃ E : ByteArray, Utf8.encode z = E ∧ E.size = 1 ∧ E.data.toList = [UInt8.ofNat z.toNat] :=
  ⟨_, enc_at z h0 h1, rfl, rfl⟩
theorem app_of (a b : ByteArray) (la lb : List UInt8) (ha : a.data.toList = la) (hb : b.data.toList = lb) : ∃ S : ByteArray, a ++ b = S ∧ S.data.toList = la ++ lb := by
  refine ⟨_, rfl, ?_⟩
  rw [ByteArray.data_append, Array.toList_append, ha, hb]
theorem decDigits_len (n : Nat) (h : n ≤ 1000) : (Lib.decDigits n).length ≤ 4 := by
  have h1 : ∀ k : Nat, k < 10 → (Lib.decDigits k).length ≤ 1 := fun k hk => by rw [Lib.decDigits_one hk]; simp
  have st : ∀ k m : Nat, (∀ j : Nat, j < k → (Lib.decDigits j).length ≤ m) → ∀ j : Nat, j < 10 * k → 1 ≤ m → (Lib.decDigits j).length ≤ m + 1 := fun k m h j hj hm => by
    by_cases h10 : j < 10
    · have := h1 j h10; omega
    · rw [Lib.decDigits, dif_neg h10, List.length_append, List.length_singleton]
      have := h (j / 10) (by omega)
      omega
  have h2 := st 10 1 (fun j hj => h1 j hj)
  have h3 := st 100 2 (fun j hj => h2 j (by omega) (by omega))
  have h4 := st 1000 3 (fun j hj => h3 j (by omega) (by omega))
  exact h4 n (by omega) (by omega)
set_option maxHeartbeats 2000000 in
theorem print_ffs (c r : Int) (w : World) (T : Tabs w) (g : rgt c r = true) (hc : c < 26) : Calls Tryd.prog 14 #[(Value.agg #[Value.int .i64 (c), Value.int .i64 (r), Value.bool false, Value.bool false])] w (StrPost (prtV c r false false) w) := by
  obtain ⟨c0, c1, r0, r1⟩ := rgt_iff.1 g
  have R1 := Lib.hid (fun W => right_any c r false false W)
  have PE : Hid (prtV c r false false = dol false ++ colN c ++ dol false ++ Lib.decDigits (r + 1).toNat) := if_pos g
  rw [g] at R1
  have HT := Lib.hid T
  have IT := Lib.hid (fun W => itoa_any (r + 1) W (by omega) (by omega))
  have IL := Lib.hid (decDigits_len (r + 1).toNat (by omega))
  have w1 : IntKind.i64.wrap (r + 1) = r + 1 := by rw [IntKind.wrap_i64]; omega
  have t1 : c.tmod 26 = c % 26 := Int.tmod_eq_emod_of_nonneg (by omega)
  have q2 : 0 ≤ c % 26 ∧ c % 26 < 26 := by omega
  have t2 : IntKind.i64.wrap (c % 26) = c % 26 := by rw [IntKind.wrap_i64]; omega
  have t3 : IntKind.i64.wrap (65 + c % 26) = 65 + c % 26 := by rw [IntKind.wrap_i64]; omega
  have t4 : IntKind.i32.wrap (65 + c % 26) = 65 + c % 26 := by rw [IntKind.wrap_i32]; omega
  obtain ⟨E2, hE2, zE2, lE2⟩ := enc_of (65 + c % 26) (by omega) (by omega)
  obtain ⟨S2, hS2, lS2⟩ := app_of { data := #[] } E2 [] _ rfl lE2
  have zS2 : S2.size = 1 := by rw [bytes_size, lS2]; rfl
  have hc' : ¬ 26 ≤ c := by omega
  have LL : Hid (S2.data.toList = dol false ++ colN c ++ dol false) := by
    unfold Hid; rw [lS2]; unfold colN dol
    rw [if_pos hc]
    rw [show c % 26 = c by omega]
    rfl
  clear g T hc lE2 lS2 q2
  go_enter Tryd.func14, Tryd.ntmps14
  go_wp2_with fail
  refine (R1.out _).mono ?_
  rintro e w2 ⟨rfl, hb⟩
  have HB := Lib.hid ((by (repeat' first | exact Below.refl _ _ | refine Below.alloc ?_ ?_ _ | refine Below.setCell ?_ ?_ _ | refine below_drewN ?_ _ | (simp; done) | (simp; omega)) : Below w.heap.size w _).trans (hb.mono (by simp)))
  obtain ⟨b0, b1, b2, b3⟩ := (BoxR.new w c r false false).on hb (by simp)
  clear hb
  go_wp2_with fail
  refine (IT.out _ (HT.out.below HB.out)).mono ?_
  rintro e w3 ⟨S, rfl, hS, hb3⟩
  have HB3 := Lib.hid (via HB.out hb3)
  have hSl : S.size ≤ 4 := by rw [bytes_size, hS]; exact IL.out
  have HS := Lib.hid hS
  have hov : ¬ 9223372036854775807 < 1 + S.size := by omega
  clear hS hb3
  obtain ⟨F, hF, lF⟩ := app_of S2 S _ _ LL.out HS.out
  go_wp2
  go_ret
  exact ⟨_, rfl, by rw [lF, PE.out], HB3.out⟩
set_option maxHeartbeats 2000000 in
theorem print_ffb (c r : Int) (w : World) (T : Tabs w) (g : rgt c r = true) (hc : 26 ≤ c) : Calls Tryd.prog 14 #[(Value.agg #[Value.int .i64 (c), Value.int .i64 (r), Value.bool false, Value.bool false])] w (StrPost (prtV c r false false) w) := by
  obtain ⟨c0, c1, r0, r1⟩ := rgt_iff.1 g
  have R1 := Lib.hid (fun W => right_any c r false false W)
  have PE : Hid (prtV c r false false = dol false ++ colN c ++ dol false ++ Lib.decDigits (r + 1).toNat) := if_pos g
  rw [g] at R1
  have HT := Lib.hid T
  have IT := Lib.hid (fun W => itoa_any (r + 1) W (by omega) (by omega))
  have IL := Lib.hid (decDigits_len (r + 1).toNat (by omega))
  have w1 : IntKind.i64.wrap (r + 1) = r + 1 := by rw [IntKind.wrap_i64]; omega
  have m1 : c.tdiv 26 = c / 26 := Int.tdiv_eq_ediv_of_nonneg (by omega)
  have q1 : 1 ≤ c / 26 ∧ c / 26 ≤ 2 := by omega
  have m2 : IntKind.i64.wrap (c / 26) = c / 26 := by rw [IntKind.wrap_i64]; omega
  have m3 : IntKind.i64.wrap (65 + c / 26) = 65 + c / 26 := by rw [IntKind.wrap_i64]; omega
  have m4 : IntKind.i64.wrap (65 + c / 26 - 1) = 65 + c / 26 - 1 := by rw [IntKind.wrap_i64]; omega
  have m5 : IntKind.i32.wrap (65 + c / 26 - 1) = 65 + c / 26 - 1 := by rw [IntKind.wrap_i32]; omega
  obtain ⟨E1, hE1, zE1, lE1⟩ := enc_of (65 + c / 26 - 1) (by omega) (by omega)
  obtain ⟨S1, hS1, lS1⟩ := app_of { data := #[] } E1 [] _ rfl lE1
  have zS1 : S1.size = 1 := by rw [bytes_size, lS1]; rfl
  have t1 : c.tmod 26 = c % 26 := Int.tmod_eq_emod_of_nonneg (by omega)
  have q2 : 0 ≤ c % 26 ∧ c % 26 < 26 := by omega
  have t2 : IntKind.i64.wrap (c % 26) = c % 26 := by rw [IntKind.wrap_i64]; omega
  have t3 : IntKind.i64.wrap (65 + c % 26) = 65 + c % 26 := by rw [IntKind.wrap_i64]; omega
  have t4 : IntKind.i32.wrap (65 + c % 26) = 65 + c % 26 := by rw [IntKind.wrap_i32]; omega
  obtain ⟨E2, hE2, zE2, lE2⟩ := enc_of (65 + c % 26) (by omega) (by omega)
  obtain ⟨S2, hS2, lS2⟩ := app_of S1 E2 _ _ lS1 lE2
  have zS2 : S2.size = 2 := by rw [bytes_size, lS2]; rfl
  have hc' : 26 ≤ c := by omega
  have LL : Hid (S2.data.toList = dol false ++ colN c ++ dol false) := by
    unfold Hid; rw [lS2]; unfold colN dol
    rw [if_neg (show ¬ c < 26 by omega)]
    rw [show 65 + c / 26 - 1 = 64 + c / 26 by omega]
    rfl
  clear g T hc lE1 lS1 lE2 lS2 q2 q1
  go_enter Tryd.func14, Tryd.ntmps14
  go_wp2_with fail
  refine (R1.out _).mono ?_
  rintro e w2 ⟨rfl, hb⟩
  have HB := Lib.hid ((by (repeat' first | exact Below.refl _ _ | refine Below.alloc ?_ ?_ _ | refine Below.setCell ?_ ?_ _ | refine below_drewN ?_ _ | (simp; done) | (simp; omega)) : Below w.heap.size w _).trans (hb.mono (by simp)))
  obtain ⟨b0, b1, b2, b3⟩ := (BoxR.new w c r false false).on hb (by simp)
  clear hb
  go_wp2_with fail
  refine (IT.out _ (HT.out.below HB.out)).mono ?_
  rintro e w3 ⟨S, rfl, hS, hb3⟩
  have HB3 := Lib.hid (via HB.out hb3)
  have hSl : S.size ≤ 4 := by rw [bytes_size, hS]; exact IL.out
  have HS := Lib.hid hS
  have hov : ¬ 9223372036854775807 < 2 + S.size := by omega
  clear hS hb3
  obtain ⟨F, hF, lF⟩ := app_of S2 S _ _ LL.out HS.out
  go_wp2
  go_ret
  exact ⟨_, rfl, by rw [lF, PE.out], HB3.out⟩
set_option maxHeartbeats 2000000 in
theorem print_fts (c r : Int) (w : World) (T : Tabs w) (g : rgt c r = true) (hc : c < 26) : Calls Tryd.prog 14 #[(Value.agg #[Value.int .i64 (c), Value.int .i64 (r), Value.bool false, Value.bool true])] w (StrPost (prtV c r false true) w) := by
  obtain ⟨c0, c1, r0, r1⟩ := rgt_iff.1 g
  have R1 := Lib.hid (fun W => right_any c r false true W)
  have PE : Hid (prtV c r false true = dol false ++ colN c ++ dol true ++ Lib.decDigits (r + 1).toNat) := if_pos g
  rw [g] at R1
  have HT := Lib.hid T
  have IT := Lib.hid (fun W => itoa_any (r + 1) W (by omega) (by omega))
  have IL := Lib.hid (decDigits_len (r + 1).toNat (by omega))
  have w1 : IntKind.i64.wrap (r + 1) = r + 1 := by rw [IntKind.wrap_i64]; omega
  have t1 : c.tmod 26 = c % 26 := Int.tmod_eq_emod_of_nonneg (by omega)
  have q2 : 0 ≤ c % 26 ∧ c % 26 < 26 := by omega
  have t2 : IntKind.i64.wrap (c % 26) = c % 26 := by rw [IntKind.wrap_i64]; omega
  have t3 : IntKind.i64.wrap (65 + c % 26) = 65 + c % 26 := by rw [IntKind.wrap_i64]; omega
  have t4 : IntKind.i32.wrap (65 + c % 26) = 65 + c % 26 := by rw [IntKind.wrap_i32]; omega
  obtain ⟨E2, hE2, zE2, lE2⟩ := enc_of (65 + c % 26) (by omega) (by omega)
  obtain ⟨S2, hS2, lS2⟩ := app_of { data := #[] } E2 [] _ rfl lE2
  have zS2 : S2.size = 1 := by rw [bytes_size, lS2]; rfl
  obtain ⟨S3, hS3, lS3⟩ := app_of S2 { data := #[36] } _ [36] lS2 rfl
  have zS3 : S3.size = 2 := by rw [bytes_size, lS3]; rfl
  have hc' : ¬ 26 ≤ c := by omega
  have LL : Hid (S3.data.toList = dol false ++ colN c ++ dol true) := by
    unfold Hid; rw [lS3]; unfold colN dol
    rw [if_pos hc]
    rw [show c % 26 = c by omega]
    rfl
  clear g T hc lE2 lS2 lS3 q2
  go_enter Tryd.func14, Tryd.ntmps14
  go_wp2_with fail
  refine (R1.out _).mono ?_
  rintro e w2 ⟨rfl, hb⟩
  have HB := Lib.hid ((by (repeat' first | exact Below.refl _ _ | refine Below.alloc ?_ ?_ _ | refine Below.setCell ?_ ?_ _ | refine below_drewN ?_ _ | (simp; done) | (simp; omega)) : Below w.heap.size w _).trans (hb.mono (by simp)))
  obtain ⟨b0, b1, b2, b3⟩ := (BoxR.new w c r false true).on hb (by simp)
  clear hb
  go_wp2_with fail
  refine (IT.out _ (HT.out.below HB.out)).mono ?_
  rintro e w3 ⟨S, rfl, hS, hb3⟩
  have HB3 := Lib.hid (via HB.out hb3)
  have hSl : S.size ≤ 4 := by rw [bytes_size, hS]; exact IL.out
  have HS := Lib.hid hS
  have hov : ¬ 9223372036854775807 < 2 + S.size := by omega
  clear hS hb3
  obtain ⟨F, hF, lF⟩ := app_of S3 S _ _ LL.out HS.out
  go_wp2
  go_ret
  exact ⟨_, rfl, by rw [lF, PE.out], HB3.out⟩
set_option maxHeartbeats 2000000 in
theorem print_ftb (c r : Int) (w : World) (T : Tabs w) (g : rgt c r = true) (hc : 26 ≤ c) : Calls Tryd.prog 14 #[(Value.agg #[Value.int .i64 (c), Value.int .i64 (r), Value.bool false, Value.bool true])] w (StrPost (prtV c r false true) w) := by
  obtain ⟨c0, c1, r0, r1⟩ := rgt_iff.1 g
  have R1 := Lib.hid (fun W => right_any c r false true W)
  have PE : Hid (prtV c r false true = dol false ++ colN c ++ dol true ++ Lib.decDigits (r + 1).toNat) := if_pos g
  rw [g] at R1
  have HT := Lib.hid T
  have IT := Lib.hid (fun W => itoa_any (r + 1) W (by omega) (by omega))
  have IL := Lib.hid (decDigits_len (r + 1).toNat (by omega))
  have w1 : IntKind.i64.wrap (r + 1) = r + 1 := by rw [IntKind.wrap_i64]; omega
  have m1 : c.tdiv 26 = c / 26 := Int.tdiv_eq_ediv_of_nonneg (by omega)
  have q1 : 1 ≤ c / 26 ∧ c / 26 ≤ 2 := by omega
  have m2 : IntKind.i64.wrap (c / 26) = c / 26 := by rw [IntKind.wrap_i64]; omega
  have m3 : IntKind.i64.wrap (65 + c / 26) = 65 + c / 26 := by rw [IntKind.wrap_i64]; omega
  have m4 : IntKind.i64.wrap (65 + c / 26 - 1) = 65 + c / 26 - 1 := by rw [IntKind.wrap_i64]; omega
  have m5 : IntKind.i32.wrap (65 + c / 26 - 1) = 65 + c / 26 - 1 := by rw [IntKind.wrap_i32]; omega
  obtain ⟨E1, hE1, zE1, lE1⟩ := enc_of (65 + c / 26 - 1) (by omega) (by omega)
  obtain ⟨S1, hS1, lS1⟩ := app_of { data := #[] } E1 [] _ rfl lE1
  have zS1 : S1.size = 1 := by rw [bytes_size, lS1]; rfl
  have t1 : c.tmod 26 = c % 26 := Int.tmod_eq_emod_of_nonneg (by omega)
  have q2 : 0 ≤ c % 26 ∧ c % 26 < 26 := by omega
  have t2 : IntKind.i64.wrap (c % 26) = c % 26 := by rw [IntKind.wrap_i64]; omega
  have t3 : IntKind.i64.wrap (65 + c % 26) = 65 + c % 26 := by rw [IntKind.wrap_i64]; omega
  have t4 : IntKind.i32.wrap (65 + c % 26) = 65 + c % 26 := by rw [IntKind.wrap_i32]; omega
  obtain ⟨E2, hE2, zE2, lE2⟩ := enc_of (65 + c % 26) (by omega) (by omega)
  obtain ⟨S2, hS2, lS2⟩ := app_of S1 E2 _ _ lS1 lE2
  have zS2 : S2.size = 2 := by rw [bytes_size, lS2]; rfl
  obtain ⟨S3, hS3, lS3⟩ := app_of S2 { data := #[36] } _ [36] lS2 rfl
  have zS3 : S3.size = 3 := by rw [bytes_size, lS3]; rfl
  have hc' : 26 ≤ c := by omega
  have LL : Hid (S3.data.toList = dol false ++ colN c ++ dol true) := by
    unfold Hid; rw [lS3]; unfold colN dol
    rw [if_neg (show ¬ c < 26 by omega)]
    rw [show 65 + c / 26 - 1 = 64 + c / 26 by omega]
    rfl
  clear g T hc lE1 lS1 lE2 lS2 lS3 q2 q1
  go_enter Tryd.func14, Tryd.ntmps14
  go_wp2_with fail
  refine (R1.out _).mono ?_
  rintro e w2 ⟨rfl, hb⟩
  have HB := Lib.hid ((by (repeat' first | exact Below.refl _ _ | refine Below.alloc ?_ ?_ _ | refine Below.setCell ?_ ?_ _ | refine below_drewN ?_ _ | (simp; done) | (simp; omega)) : Below w.heap.size w _).trans (hb.mono (by simp)))
  obtain ⟨b0, b1, b2, b3⟩ := (BoxR.new w c r false true).on hb (by simp)
  clear hb
  go_wp2_with fail
  refine (IT.out _ (HT.out.below HB.out)).mono ?_
  rintro e w3 ⟨S, rfl, hS, hb3⟩
  have HB3 := Lib.hid (via HB.out hb3)
  have hSl : S.size ≤ 4 := by rw [bytes_size, hS]; exact IL.out
  have HS := Lib.hid hS
  have hov : ¬ 9223372036854775807 < 3 + S.size := by omega
  clear hS hb3
  obtain ⟨F, hF, lF⟩ := app_of S3 S _ _ LL.out HS.out
  go_wp2
  go_ret
  exact ⟨_, rfl, by rw [lF, PE.out], HB3.out⟩
set_option maxHeartbeats 2000000 in
theorem print_tfs (c r : Int) (w : World) (T : Tabs w) (g : rgt c r = true) (hc : c < 26) : Calls Tryd.prog 14 #[(Value.agg #[Value.int .i64 (c), Value.int .i64 (r), Value.bool true, Value.bool false])] w (StrPost (prtV c r true false) w) := by
  obtain ⟨c0, c1, r0, r1⟩ := rgt_iff.1 g
  have R1 := Lib.hid (fun W => right_any c r true false W)
  have PE : Hid (prtV c r true false = dol true ++ colN c ++ dol false ++ Lib.decDigits (r + 1).toNat) := if_pos g
  rw [g] at R1
  have HT := Lib.hid T
  have IT := Lib.hid (fun W => itoa_any (r + 1) W (by omega) (by omega))
  have IL := Lib.hid (decDigits_len (r + 1).toNat (by omega))
  have w1 : IntKind.i64.wrap (r + 1) = r + 1 := by rw [IntKind.wrap_i64]; omega
  have t1 : c.tmod 26 = c % 26 := Int.tmod_eq_emod_of_nonneg (by omega)
  have q2 : 0 ≤ c % 26 ∧ c % 26 < 26 := by omega
  have t2 : IntKind.i64.wrap (c % 26) = c % 26 := by rw [IntKind.wrap_i64]; omega
  have t3 : IntKind.i64.wrap (65 + c % 26) = 65 + c % 26 := by rw [IntKind.wrap_i64]; omega
  have t4 : IntKind.i32.wrap (65 + c % 26) = 65 + c % 26 := by rw [IntKind.wrap_i32]; omega
  obtain ⟨E2, hE2, zE2, lE2⟩ := enc_of (65 + c % 26) (by omega) (by omega)
  obtain ⟨S2, hS2, lS2⟩ := app_of { data := #[36] } E2 [36] _ rfl lE2
  have zS2 : S2.size = 2 := by rw [bytes_size, lS2]; rfl
  have hc' : ¬ 26 ≤ c := by omega
  have LL : Hid (S2.data.toList = dol true ++ colN c ++ dol false) := by
    unfold Hid; rw [lS2]; unfold colN dol
    rw [if_pos hc]
    rw [show c % 26 = c by omega]
    rfl
  clear g T hc lE2 lS2 q2
  go_enter Tryd.func14, Tryd.ntmps14
  go_wp2_with fail
  refine (R1.out _).mono ?_
  rintro e w2 ⟨rfl, hb⟩
  have HB := Lib.hid ((by (repeat' first | exact Below.refl _ _ | refine Below.alloc ?_ ?_ _ | refine Below.setCell ?_ ?_ _ | refine below_drewN ?_ _ | (simp; done) | (simp; omega)) : Below w.heap.size w _).trans (hb.mono (by simp)))
  obtain ⟨b0, b1, b2, b3⟩ := (BoxR.new w c r true false).on hb (by simp)
  clear hb
  go_wp2_with fail
  refine (IT.out _ (HT.out.below HB.out)).mono ?_
  rintro e w3 ⟨S, rfl, hS, hb3⟩
  have HB3 := Lib.hid (via HB.out hb3)
  have hSl : S.size ≤ 4 := by rw [bytes_size, hS]; exact IL.out
  have HS := Lib.hid hS
  have hov : ¬ 9223372036854775807 < 2 + S.size := by omega
  clear hS hb3
  obtain ⟨F, hF, lF⟩ := app_of S2 S _ _ LL.out HS.out
  go_wp2
  go_ret
  exact ⟨_, rfl, by rw [lF, PE.out], HB3.out⟩
set_option maxHeartbeats 2000000 in
theorem print_tfb (c r : Int) (w : World) (T : Tabs w) (g : rgt c r = true) (hc : 26 ≤ c) : Calls Tryd.prog 14 #[(Value.agg #[Value.int .i64 (c), Value.int .i64 (r), Value.bool true, Value.bool false])] w (StrPost (prtV c r true false) w) := by
  obtain ⟨c0, c1, r0, r1⟩ := rgt_iff.1 g
  have R1 := Lib.hid (fun W => right_any c r true false W)
  have PE : Hid (prtV c r true false = dol true ++ colN c ++ dol false ++ Lib.decDigits (r + 1).toNat) := if_pos g
  rw [g] at R1
  have HT := Lib.hid T
  have IT := Lib.hid (fun W => itoa_any (r + 1) W (by omega) (by omega))
  have IL := Lib.hid (decDigits_len (r + 1).toNat (by omega))
  have w1 : IntKind.i64.wrap (r + 1) = r + 1 := by rw [IntKind.wrap_i64]; omega
  have m1 : c.tdiv 26 = c / 26 := Int.tdiv_eq_ediv_of_nonneg (by omega)
  have q1 : 1 ≤ c / 26 ∧ c / 26 ≤ 2 := by omega
  have m2 : IntKind.i64.wrap (c / 26) = c / 26 := by rw [IntKind.wrap_i64]; omega
  have m3 : IntKind.i64.wrap (65 + c / 26) = 65 + c / 26 := by rw [IntKind.wrap_i64]; omega
  have m4 : IntKind.i64.wrap (65 + c / 26 - 1) = 65 + c / 26 - 1 := by rw [IntKind.wrap_i64]; omega
  have m5 : IntKind.i32.wrap (65 + c / 26 - 1) = 65 + c / 26 - 1 := by rw [IntKind.wrap_i32]; omega
  obtain ⟨E1, hE1, zE1, lE1⟩ := enc_of (65 + c / 26 - 1) (by omega) (by omega)
  obtain ⟨S1, hS1, lS1⟩ := app_of { data := #[36] } E1 [36] _ rfl lE1
  have zS1 : S1.size = 2 := by rw [bytes_size, lS1]; rfl
  have t1 : c.tmod 26 = c % 26 := Int.tmod_eq_emod_of_nonneg (by omega)
  have q2 : 0 ≤ c % 26 ∧ c % 26 < 26 := by omega
  have t2 : IntKind.i64.wrap (c % 26) = c % 26 := by rw [IntKind.wrap_i64]; omega
  have t3 : IntKind.i64.wrap (65 + c % 26) = 65 + c % 26 := by rw [IntKind.wrap_i64]; omega
  have t4 : IntKind.i32.wrap (65 + c % 26) = 65 + c % 26 := by rw [IntKind.wrap_i32]; omega
  obtain ⟨E2, hE2, zE2, lE2⟩ := enc_of (65 + c % 26) (by omega) (by omega)
  obtain ⟨S2, hS2, lS2⟩ := app_of S1 E2 _ _ lS1 lE2
  have zS2 : S2.size = 3 := by rw [bytes_size, lS2]; rfl
  have hc' : 26 ≤ c := by omega
  have LL : Hid (S2.data.toList = dol true ++ colN c ++ dol false) := by
    unfold Hid; rw [lS2]; unfold colN dol
    rw [if_neg (show ¬ c < 26 by omega)]
    rw [show 65 + c / 26 - 1 = 64 + c / 26 by omega]
    rfl
  clear g T hc lE1 lS1 lE2 lS2 q2 q1
  go_enter Tryd.func14, Tryd.ntmps14
  go_wp2_with fail
  refine (R1.out _).mono ?_
  rintro e w2 ⟨rfl, hb⟩
  have HB := Lib.hid ((by (repeat' first | exact Below.refl _ _ | refine Below.alloc ?_ ?_ _ | refine Below.setCell ?_ ?_ _ | refine below_drewN ?_ _ | (simp; done) | (simp; omega)) : Below w.heap.size w _).trans (hb.mono (by simp)))
  obtain ⟨b0, b1, b2, b3⟩ := (BoxR.new w c r true false).on hb (by simp)
  clear hb
  go_wp2_with fail
  refine (IT.out _ (HT.out.below HB.out)).mono ?_
  rintro e w3 ⟨S, rfl, hS, hb3⟩
  have HB3 := Lib.hid (via HB.out hb3)
  have hSl : S.size ≤ 4 := by rw [bytes_size, hS]; exact IL.out
  have HS := Lib.hid hS
  have hov : ¬ 9223372036854775807 < 3 + S.size := by omega
  clear hS hb3
  obtain ⟨F, hF, lF⟩ := app_of S2 S _ _ LL.out HS.out
  go_wp2
  go_ret
  exact ⟨_, rfl, by rw [lF, PE.out], HB3.out⟩
set_option maxHeartbeats 2000000 in
theorem print_tts (c r : Int) (w : World) (T : Tabs w) (g : rgt c r = true) (hc : c < 26) : Calls Tryd.prog 14 #[(Value.agg #[Value.int .i64 (c), Value.int .i64 (r), Value.bool true, Value.bool true])] w (StrPost (prtV c r true true) w) := by
  obtain ⟨c0, c1, r0, r1⟩ := rgt_iff.1 g
  have R1 := Lib.hid (fun W => right_any c r true true W)
  have PE : Hid (prtV c r true true = dol true ++ colN c ++ dol true ++ Lib.decDigits (r + 1).toNat) := if_pos g
  rw [g] at R1
  have HT := Lib.hid T
  have IT := Lib.hid (fun W => itoa_any (r + 1) W (by omega) (by omega))
  have IL := Lib.hid (decDigits_len (r + 1).toNat (by omega))
  have w1 : IntKind.i64.wrap (r + 1) = r + 1 := by rw [IntKind.wrap_i64]; omega
  have t1 : c.tmod 26 = c % 26 := Int.tmod_eq_emod_of_nonneg (by omega)
  have q2 : 0 ≤ c % 26 ∧ c % 26 < 26 := by omega
  have t2 : IntKind.i64.wrap (c % 26) = c % 26 := by rw [IntKind.wrap_i64]; omega
  have t3 : IntKind.i64.wrap (65 + c % 26) = 65 + c % 26 := by rw [IntKind.wrap_i64]; omega
  have t4 : IntKind.i32.wrap (65 + c % 26) = 65 + c % 26 := by rw [IntKind.wrap_i32]; omega
  obtain ⟨E2, hE2, zE2, lE2⟩ := enc_of (65 + c % 26) (by omega) (by omega)
  obtain ⟨S2, hS2, lS2⟩ := app_of { data := #[36] } E2 [36] _ rfl lE2
  have zS2 : S2.size = 2 := by rw [bytes_size, lS2]; rfl
  obtain ⟨S3, hS3, lS3⟩ := app_of S2 { data := #[36] } _ [36] lS2 rfl
  have zS3 : S3.size = 3 := by rw [bytes_size, lS3]; rfl
  have hc' : ¬ 26 ≤ c := by omega
  have LL : Hid (S3.data.toList = dol true ++ colN c ++ dol true) := by
    unfold Hid; rw [lS3]; unfold colN dol
    rw [if_pos hc]
    rw [show c % 26 = c by omega]
    rfl
  clear g T hc lE2 lS2 lS3 q2
  go_enter Tryd.func14, Tryd.ntmps14
  go_wp2_with fail
  refine (R1.out _).mono ?_
  rintro e w2 ⟨rfl, hb⟩
  have HB := Lib.hid ((by (repeat' first | exact Below.refl _ _ | refine Below.alloc ?_ ?_ _ | refine Below.setCell ?_ ?_ _ | refine below_drewN ?_ _ | (simp; done) | (simp; omega)) : Below w.heap.size w _).trans (hb.mono (by simp)))
  obtain ⟨b0, b1, b2, b3⟩ := (BoxR.new w c r true true).on hb (by simp)
  clear hb
  go_wp2_with fail
  refine (IT.out _ (HT.out.below HB.out)).mono ?_
  rintro e w3 ⟨S, rfl, hS, hb3⟩
  have HB3 := Lib.hid (via HB.out hb3)
  have hSl : S.size ≤ 4 := by rw [bytes_size, hS]; exact IL.out
  have HS := Lib.hid hS
  have hov : ¬ 9223372036854775807 < 3 + S.size := by omega
  clear hS hb3
  obtain ⟨F, hF, lF⟩ := app_of S3 S _ _ LL.out HS.out
  go_wp2
  go_ret
  exact ⟨_, rfl, by rw [lF, PE.out], HB3.out⟩
set_option maxHeartbeats 2000000 in
theorem print_ttb (c r : Int) (w : World) (T : Tabs w) (g : rgt c r = true) (hc : 26 ≤ c) : Calls Tryd.prog 14 #[(Value.agg #[Value.int .i64 (c), Value.int .i64 (r), Value.bool true, Value.bool true])] w (StrPost (prtV c r true true) w) := by
  obtain ⟨c0, c1, r0, r1⟩ := rgt_iff.1 g
  have R1 := Lib.hid (fun W => right_any c r true true W)
  have PE : Hid (prtV c r true true = dol true ++ colN c ++ dol true ++ Lib.decDigits (r + 1).toNat) := if_pos g
  rw [g] at R1
  have HT := Lib.hid T
  have IT := Lib.hid (fun W => itoa_any (r + 1) W (by omega) (by omega))
  have IL := Lib.hid (decDigits_len (r + 1).toNat (by omega))
  have w1 : IntKind.i64.wrap (r + 1) = r + 1 := by rw [IntKind.wrap_i64]; omega
  have m1 : c.tdiv 26 = c / 26 := Int.tdiv_eq_ediv_of_nonneg (by omega)
  have q1 : 1 ≤ c / 26 ∧ c / 26 ≤ 2 := by omega
  have m2 : IntKind.i64.wrap (c / 26) = c / 26 := by rw [IntKind.wrap_i64]; omega
  have m3 : IntKind.i64.wrap (65 + c / 26) = 65 + c / 26 := by rw [IntKind.wrap_i64]; omega
  have m4 : IntKind.i64.wrap (65 + c / 26 - 1) = 65 + c / 26 - 1 := by rw [IntKind.wrap_i64]; omega
  have m5 : IntKind.i32.wrap (65 + c / 26 - 1) = 65 + c / 26 - 1 := by rw [IntKind.wrap_i32]; omega
  obtain ⟨E1, hE1, zE1, lE1⟩ := enc_of (65 + c / 26 - 1) (by omega) (by omega)
  obtain ⟨S1, hS1, lS1⟩ := app_of { data := #[36] } E1 [36] _ rfl lE1
  have zS1 : S1.size = 2 := by rw [bytes_size, lS1]; rfl
  have t1 : c.tmod 26 = c % 26 := Int.tmod_eq_emod_of_nonneg (by omega)
  have q2 : 0 ≤ c % 26 ∧ c % 26 < 26 := by omega
  have t2 : IntKind.i64.wrap (c % 26) = c % 26 := by rw [IntKind.wrap_i64]; omega
  have t3 : IntKind.i64.wrap (65 + c % 26) = 65 + c % 26 := by rw [IntKind.wrap_i64]; omega
  have t4 : IntKind.i32.wrap (65 + c % 26) = 65 + c % 26 := by rw [IntKind.wrap_i32]; omega
  obtain ⟨E2, hE2, zE2, lE2⟩ := enc_of (65 + c % 26) (by omega) (by omega)
  obtain ⟨S2, hS2, lS2⟩ := app_of S1 E2 _ _ lS1 lE2
  have zS2 : S2.size = 3 := by rw [bytes_size, lS2]; rfl
  obtain ⟨S3, hS3, lS3⟩ := app_of S2 { data := #[36] } _ [36] lS2 rfl
  have zS3 : S3.size = 4 := by rw [bytes_size, lS3]; rfl
  have hc' : 26 ≤ c := by omega
  have LL : Hid (S3.data.toList = dol true ++ colN c ++ dol true) := by
    unfold Hid; rw [lS3]; unfold colN dol
    rw [if_neg (show ¬ c < 26 by omega)]
    rw [show 65 + c / 26 - 1 = 64 + c / 26 by omega]
    rfl
  clear g T hc lE1 lS1 lE2 lS2 lS3 q2 q1
  go_enter Tryd.func14, Tryd.ntmps14
  go_wp2_with fail
  refine (R1.out _).mono ?_
  rintro e w2 ⟨rfl, hb⟩
  have HB := Lib.hid ((by (repeat' first | exact Below.refl _ _ | refine Below.alloc ?_ ?_ _ | refine Below.setCell ?_ ?_ _ | refine below_drewN ?_ _ | (simp; done) | (simp; omega)) : Below w.heap.size w _).trans (hb.mono (by simp)))
  obtain ⟨b0, b1, b2, b3⟩ := (BoxR.new w c r true true).on hb (by simp)
  clear hb
  go_wp2_with fail
  refine (IT.out _ (HT.out.below HB.out)).mono ?_
  rintro e w3 ⟨S, rfl, hS, hb3⟩
  have HB3 := Lib.hid (via HB.out hb3)
  have hSl : S.size ≤ 4 := by rw [bytes_size, hS]; exact IL.out
  have HS := Lib.hid hS
  have hov : ¬ 9223372036854775807 < 4 + S.size := by omega
  clear hS hb3
  obtain ⟨F, hF, lF⟩ := app_of S3 S _ _ LL.out HS.out
  go_wp2
  go_ret
  exact ⟨_, rfl, by rw [lF, PE.out], HB3.out⟩
theorem print_out (c r : Int) (x y : Bool) (w : World) (g : rgt c r = false) : Calls Tryd.prog 14 #[(Value.agg #[Value.int .i64 (c), Value.int .i64 (r), Value.bool x, Value.bool y])] w (StrPost (prtV c r x y) w) := by
  have R1 := Lib.hid (fun W => right_any c r x y W)
  have PE : Hid (prtV c r x y = []) := by unfold Hid; exact if_neg (by rw [g]; simp)
  rw [g] at R1
  clear g
  go_enter Tryd.func14, Tryd.ntmps14
  go_wp2_with fail
  refine (R1.out _).mono ?_
  rintro e w2 ⟨rfl, hb⟩
  have HB := Lib.hid ((by (repeat' first | exact Below.refl _ _ | refine Below.alloc ?_ ?_ _ | refine Below.setCell ?_ ?_ _ | refine below_drewN ?_ _ | (simp; done) | (simp; omega)) : Below w.heap.size w _).trans (hb.mono (by simp)))
  clear hb
  go_wp2
  go_ret
  exact ⟨_, rfl, by rw [PE.out], HB.out⟩
theorem print_any (c r : Int) (x y : Bool) (w : World) (T : Tabs w) : Calls Tryd.prog 14 #[(Value.agg #[Value.int .i64 (c), Value.int .i64 (r), Value.bool x, Value.bool y])] w (StrPost (prtV c r x y) w) := by
  by_cases g : rgt c r = true
  · by_cases hc : c < 26
    · cases x <;> cases y
      · exact print_ffs c r w T g hc
      · exact print_fts c r w T g hc
      · exact print_tfs c r w T g hc
      · exact print_tts c r w T g hc
    · cases x <;> cases y
      · exact print_ffb c r w T g (by omega)
      · exact print_ftb c r w T g (by omega)
      · exact print_tfb c r w T g (by omega)
      · exact print_ttb c r w T g (by omega)
  · exact print_out c r x y w (by simpa using g)
end Go.Proofs.YtikcggbkkgipoaaDoor
