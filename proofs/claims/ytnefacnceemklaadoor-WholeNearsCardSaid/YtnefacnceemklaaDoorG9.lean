/-
  whole.From; the document's rounds, Nat, Whole, From: walked.
-/
import Derived.Test.YtnefacnceemklaaDoorG7
namespace Go.Proofs.YtnefacnceemklaaDoor
open Go.RowKit Go.Shelf

def fromV (v : Int) : Int := rndI (decide (v < 0)) (if v < 0 then -v else v) 0
set_option maxRecDepth 100000 in
set_option maxHeartbeats 1000000 in
theorem wfrom_any (v : Int) (h0 : -9223372036854775808 ≤ v) (h1 : v ≤ 9223372036854775807) (w : World) : Calls Tryd.prog 64 #[.int .i64 v] w (WordPost (fromV v) w) := by
  obtain ⟨r, hr⟩ : ∃ z, fromV v = z := ⟨_, rfl⟩
  rw [hr]
  by_cases c : v < 0
  · have JR := Lib.hid (fun W => joinR_any true (-v) 0 ⟨by omega, by omega⟩ (by decide) (by decide) W)
    have e : rndI true (-v) 0 = r := by rw [← hr]; unfold fromV; rw [if_pos c]; simp [c]
    rw [e] at JR
    obtain ⟨t, ht⟩ : ∃ z, IntKind.u64.wrap v = z := ⟨_, rfl⟩
    have hm : IntKind.u64.wrap (-t) = -v := by rw [← ht, IntKind.wrap_u64, IntKind.wrap_u64]; omega
    clear hr e
    go_enter Tryd.func64, Tryd.ntmps64
    go_wp2_with fail
    refine (JR.out _).mono ?_
    rintro e w1 ⟨rfl, hb⟩
    go_wp2
    go_ret
    exact ⟨rfl, by first | exact hb | exact ((Below.refl _ _).alloc (Nat.le_refl _) _).trans (hb.mono (by simp))⟩
  · have JR := Lib.hid (fun W => joinR_any false v 0 ⟨by omega, by omega⟩ (by decide) (by decide) W)
    have e : rndI false v 0 = r := by rw [← hr]; unfold fromV; rw [if_neg c]; simp [c]
    rw [e] at JR
    have hm : IntKind.u64.wrap v = v := by rw [IntKind.wrap_u64]; omega
    clear hr e
    go_enter Tryd.func64, Tryd.ntmps64
    go_wp2_with fail
    refine (JR.out _).mono ?_
    rintro e w1 ⟨rfl, hb⟩
    go_wp2
    go_ret
    exact ⟨rfl, by first | exact hb | exact ((Below.refl _ _).alloc (Nat.le_refl _) _).trans (hb.mono (by simp))⟩

theorem upB_upX (y x : Int) (h0 : 0 ≤ y) (h5 : y ≤ 5) : (upB y (negB x) (wholI x % 2 == 1) (halfI x) (leftI x == 0) && !(leftI x == 0)) = upX y x := by
  unfold upB upX
  obtain rfl | rfl | rfl | rfl | rfl | rfl : y = 0 ∨ y = 1 ∨ y = 2 ∨ y = 3 ∨ y = 4 ∨ y = 5 := by omega
  all_goals
    generalize (leftI x == 0) = b
    cases b <;> simp
theorem whol_lt {x : Int} (h : Word x) : wholI x < pw (32 * ((40 : Nat) : Int)) := by
  obtain ⟨m0, m1, p0, p1⟩ := mant_bd x h
  have q := pw_mono (a := 53 + 971) (b := 32 * ((40 : Nat) : Int)) (by decide) (by decide)
  rw [pw_add 53 971 (by decide) (by decide), show pw 53 = 9007199254740992 from rfl] at q
  have d := pw_pos 971
  unfold wholI
  split
  · rename_i c
    have a := pw_mono (a := powI x) (b := 971) c p1
    have b : mantI x * pw (powI x) ≤ mantI x * pw 971 := Int.mul_le_mul_of_nonneg_left a m0
    have e : (mantI x + 1) * pw 971 ≤ 9007199254740992 * pw 971 := Int.mul_le_mul_of_nonneg_right (by omega) (Int.le_of_lt d)
    rw [Int.add_mul] at e
    omega
  · have := Int.ediv_le_self (pw (-powI x)) m0
    omega

end Go.Proofs.YtnefacnceemklaaDoor
