/-
  Mul, Sub, rank: walked.
-/
import Derived.Test.YthclnopdmmibiaaDoorA4
namespace Go.Proofs.YthclnopdmmibiaaDoor
open Go.RowKit Go.Shelf

def mulK (k j a b : Int) : Int :=
  if k = 4 ∨ j = 4 ∨ (k = 3 ∧ j = 0) ∨ (k = 0 ∧ j = 3) then 9221120237041090560
  else if k = 3 ∨ j = 3 then signI (negB a != negB b) + 9218868437227405312
  else if k = 0 ∨ j = 0 then signI (negB a != negB b)
  else rndI (negB a != negB b) (mantI a * mantI b) (powI a + powI b)
def mulV (a b : Int) : Int := mulK (kindI a) (kindI b) a b

theorem top_bit (n : Nat) (h : n < 2 ^ 64) : n.testBit 63 = decide (2 ^ 63 ≤ n) := by
  rw [Nat.testBit_eq_decide_div_mod_eq]
  congr 1
  apply propext
  constructor <;> intro h' <;> omega
theorem sign_xor (a b : Int) (h1 : Word a) (h2 : Word b) : bits .and .u64 (bits .xor .u64 a b) 9223372036854775808 = signI (negB a != negB b) := by
  obtain ⟨n, rfl⟩ := Int.eq_ofNat_of_zero_le h1.1
  obtain ⟨m, rfl⟩ := Int.eq_ofNat_of_zero_le h2.1
  have hn : n < 2 ^ 64 := by have := h1.2; omega
  have hm : m < 2 ^ 64 := by have := h2.2; omega
  have hx : n ^^^ m < 2 ^ 64 := Nat.xor_lt_two_pow hn hm
  rw [u64_xor_nat n m hn hm, u64_bits_and_top _ ⟨by omega, by omega⟩]
  have e := Nat.testBit_xor (x := n) (y := m) (i := 63)
  rw [top_bit _ hx, top_bit _ hn, top_bit _ hm] at e
  unfold signI negB
  have e1 : decide ((9223372036854775808 : Int) ≤ ((n ^^^ m : Nat) : Int)) = decide (2 ^ 63 ≤ n ^^^ m) := by congr 1; apply propext; omega
  have e2 : decide ((9223372036854775808 : Int) ≤ (n : Int)) = decide (2 ^ 63 ≤ n) := by congr 1; apply propext; omega
  have e3 : decide ((9223372036854775808 : Int) ≤ (m : Int)) = decide (2 ^ 63 ≤ m) := by congr 1; apply propext; omega
  rw [e2, e3]
  have e4 : (decide (2 ^ 63 ≤ n) != decide (2 ^ 63 ≤ m)) = (decide (2 ^ 63 ≤ n) ^^ decide (2 ^ 63 ≤ m)) := rfl
  rw [e4, ← e, ← e1]
  by_cases c : (9223372036854775808 : Int) ≤ ((n ^^^ m : Nat) : Int)
  · rw [if_pos c, decide_eq_true c]; rfl
  · rw [if_neg c, decide_eq_false c]; rfl

set_option maxRecDepth 100000 in
set_option maxHeartbeats 1000000 in
theorem times_any (a b : Int) (h1 : Word a) (h2 : Word b) (w : World) (hT : Tabs w) :
    Calls Tryd.prog 11 #[.int .u64 a, .int .u64 b] w (WordPost (mulV a b) w) := by
  obtain ⟨k, hk⟩ : ∃ z, kindI a = z := ⟨_, rfl⟩
  obtain ⟨j, hj⟩ : ∃ z, kindI b = z := ⟨_, rfl⟩
  have bk := kind_bd a
  have bj := kind_bd b
  rw [hk] at bk; rw [hj] at bj
  have KA := Lib.hid (fun w => kind_q a _ h1 hk w)
  have KB := Lib.hid (fun w => kind_q b _ h2 hj w)
  have hB0 : Hid (∀ n, Below w.heap.size w (w.drewN n)) := fun n => below_drewN (Below.refl _ _) n
  have hx := sign_xor a b h1 h2
  have ho := or_sign (negB a != negB b) 9218868437227405312 (by decide) (by decide)
  obtain ⟨r, hr⟩ : ∃ z, rndI (negB a != negB b) (mantI a * mantI b) (powI a + powI b) = z := ⟨_, rfl⟩
  obtain ⟨ma0, ma1, pa0, pa1⟩ := mant_bd a h1
  obtain ⟨mb0, mb1, pb0, pb1⟩ := mant_bd b h2
  have hne : (signI (negB a != negB b) != 0) = (negB a != negB b) := by cases (negB a != negB b) <;> rfl
  obtain ⟨wh, wl, w1, w2, wv⟩ := words (mantI a * mantI b) (Int.mul_nonneg ma0 mb0) (by
    have := mul_bd (mantI a) (mantI b) ⟨ma0, by omega⟩ ⟨mb0, by omega⟩
    omega)
  have SA := Lib.hid (fun w => split_vars a _ _ _ h1 rfl rfl rfl w)
  have SB := Lib.hid (fun w => split_vars b _ _ _ h2 rfl rfl rfl w)
  have ML : Hid (∀ w, Calls Tryd.prog 27 #[.int .u64 (mantI a), .int .u64 (mantI b)] w fun e w' => e = .returned (.agg #[.int .u64 wh, .int .u64 wl]) ∧ Below w.heap.size w w') := fun w =>
    (mul_any _ _ ⟨ma0, by omega⟩ ⟨mb0, by omega⟩ w).mono (U128Post.at w1 w2 wv w)
  have JN : Hid (∀ w, Calls Tryd.prog 26 #[.bool (negB a != negB b), .agg #[.int .u64 wh, .int .u64 wl], .int .i64 (powI a + powI b), .bool false] w (WordPost r w)) := fun w =>
    join_word w1 w2 (by omega) (by omega) (blen_bits (val_bd w1 w2).1) (by rw [wv]; exact hr) w
  have V : Hid (∀ z, z = (if k = 4 ∨ j = 4 ∨ (k = 3 ∧ j = 0) ∨ (k = 0 ∧ j = 3) then 9221120237041090560
      else if k = 3 ∨ j = 3 then signI (negB a != negB b) + 9218868437227405312
      else if k = 0 ∨ j = 0 then signI (negB a != negB b) else r) → Ending.returned (Value.int .u64 z) = .returned (.int .u64 (mulV a b))) := by
    intro z hz
    rw [hz]; unfold mulV mulK; rw [hk, hj, hr]
  have cell : ∀ n : Nat, n < 25 → w.cell? ⟨1, n, none⟩ = some (.int .i64 (prodL.getD n 0)) := hT.2.2
  have Cell := Lib.hid cell
  have pp0 : -9223372036854775808 ≤ powI a + powI b := by omega
  have pp1 : powI a + powI b ≤ 9223372036854775807 := by omega
  clear h1 h2 hk hj hT hr cell w1 w2 wv ma0 ma1 mb0 mb1
  generalize mulV a b = v at *
  generalize mantI a = ma at *
  generalize mantI b = mb at *
  generalize powI a = pa at *
  generalize powI b = pb at *
  generalize (negB a != negB b) = sg at *
  generalize negB a = na at *
  generalize negB b = nb at *
  generalize signI sg = sn at *
  have ck : k = 0 ∨ k = 1 ∨ k = 2 ∨ k = 3 ∨ k = 4 := by omega
  have cj : j = 0 ∨ j = 1 ∨ j = 2 ∨ j = 3 ∨ j = 4 := by omega
  clear bk bj
  rcases ck with rfl | rfl | rfl | rfl | rfl <;> rcases cj with rfl | rfl | rfl | rfl | rfl
  all_goals first
    | (have V := Lib.hid (V.out r (by simp))
       have hcell := Cell.out 6 (by decide)
       have hcell2 := Cell.out 7 (by decide)
       have hcell3 := Cell.out 11 (by decide)
       have hcell4 := Cell.out 12 (by decide)
       simp [prodL] at hcell hcell2 hcell3 hcell4
       clear Cell
       go_enter Tryd.func11, Tryd.ntmps11
       go_wp2_with fail
       go_quiet (first | (go_at_call_of 15 (Value.int IntKind.u64 a); exact Calls.quiet_of_same (KA.out _)) | (go_at_call_of 15 (Value.int IntKind.u64 b); exact Calls.quiet_of_same (KB.out _)))
       go_wp2_with fail
       refine (SA.out _).mono ?_
       rintro en w1 ⟨rfl, rfl⟩
       go_wp2_with fail
       refine (SB.out _).mono ?_
       rintro en w1 ⟨rfl, rfl⟩
       go_wp2_with fail
       refine (ML.out _).mono ?_
       rintro en w1 ⟨rfl, hb1⟩
       go_wp2_with fail
       refine (JN.out _).mono ?_
       rintro en w2 ⟨rfl, hb2⟩
       go_wp2
       go_ret
       exact ⟨V.out, ((hB0.out _).trans hb1).trans (hb2.mono (by have := hb1.size; simp at this; omega))⟩)
    | (clear SA SB ML JN
       have hcell := Cell.out 0 (by decide)
       have hcell1 := Cell.out 1 (by decide)
       have hcell2 := Cell.out 2 (by decide)
       have hcell3 := Cell.out 3 (by decide)
       have hcell4 := Cell.out 4 (by decide)
       have hcell5 := Cell.out 5 (by decide)
       have hcell8 := Cell.out 8 (by decide)
       have hcell9 := Cell.out 9 (by decide)
       have hcell10 := Cell.out 10 (by decide)
       have hcell13 := Cell.out 13 (by decide)
       have hcell14 := Cell.out 14 (by decide)
       have hcell15 := Cell.out 15 (by decide)
       have hcell16 := Cell.out 16 (by decide)
       have hcell17 := Cell.out 17 (by decide)
       have hcell18 := Cell.out 18 (by decide)
       have hcell19 := Cell.out 19 (by decide)
       have hcell20 := Cell.out 20 (by decide)
       have hcell21 := Cell.out 21 (by decide)
       have hcell22 := Cell.out 22 (by decide)
       have hcell23 := Cell.out 23 (by decide)
       have hcell24 := Cell.out 24 (by decide)
       simp [prodL] at hcell hcell1 hcell2 hcell3 hcell4 hcell5 hcell8 hcell9 hcell10 hcell13 hcell14 hcell15 hcell16 hcell17 hcell18 hcell19 hcell20 hcell21 hcell22 hcell23 hcell24
       go_enter Tryd.func11, Tryd.ntmps11
       go_wp2_with fail
       go_quiet (first | (go_at_call_of 15 (Value.int IntKind.u64 a); exact Calls.quiet_of_same (KA.out _)) | (go_at_call_of 15 (Value.int IntKind.u64 b); exact Calls.quiet_of_same (KB.out _)))
       go_wp2_with fail
       go_ret
       exact ⟨V.out _ (by simp), hB0.out _⟩)

def subV (a b : Int) : Int := addV a (negI b)
set_option maxHeartbeats 400000 in
theorem minus_any (a b : Int) (h1 : Word a) (h2 : Word b) (w : World) (hT : Tabs w) :
    Calls Tryd.prog 9 #[.int .u64 a, .int .u64 b] w (WordPost (subV a b) w) := by
  obtain ⟨c, hc⟩ : ∃ z, negI b = z := ⟨_, rfl⟩
  have N := Lib.hid (fun w => neg_vars b c h2 hc w)
  have A := Lib.hid (plus_any a c h1 (by rw [← hc]; exact neg_word b h2) w hT)
  unfold subV
  rw [hc]
  clear h1 h2 hT hc
  generalize addV a c = r at *
  go_enter Tryd.func9, Tryd.ntmps9
  go_wp2_with fail
  refine (N.out _).mono ?_
  rintro en w1 ⟨rfl, rfl⟩
  go_wp2_with fail
  refine (A.out).mono ?_
  rintro en w1 ⟨rfl, hb⟩
  go_wp2
  go_ret
  exact ⟨rfl, hb⟩

def rankI (x : Int) : Int := if negB x = true then -(x - 9223372036854775808) else x
end Go.Proofs.YthclnopdmmibiaaDoor
