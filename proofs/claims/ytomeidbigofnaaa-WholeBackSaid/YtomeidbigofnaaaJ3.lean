/-
  The document's To: walked.
-/
import Derived.Test.YtomeidbigofnaaaJ2
namespace Go.Proofs.Ytomeidbigofnaaa
open Go.RowKit Go.Shelf

theorem rto_arg (x y : Int) (h0 : y < 0 ∨ 5 < y) (w : World) : Calls Try.prog 24 #[.int .u64 x, .int .i64 y] w (IntPost 0 1 w) := by
  rcases h0 with c | c
  · go_enter Try.func24, Try.ntmps24
    go_wp2
    go_ret2
    exact ⟨rfl, Below.refl _ _⟩
  · have c0 : ¬ y < 0 := by omega
    go_enter Try.func24, Try.ntmps24
    go_wp2
    go_ret2
    exact ⟨rfl, Below.refl _ _⟩
theorem rto_none (x y : Int) (h : Word x) (h0 : 0 ≤ y) (h5 : y ≤ 5) (hk : 3 ≤ kindI x) (w : World) : Calls Try.prog 24 #[.int .u64 x, .int .i64 y] w (IntPost 0 11 w) := by
  obtain ⟨k, ek⟩ : ∃ z, kindI x = z := ⟨_, rfl⟩
  have K := Lib.hid (fun W => rkind_vars x k h ek W)
  rw [ek] at hk
  have h0' : ¬ y < 0 := by omega
  have h5' : ¬ 5 < y := by omega
  clear h ek h0 h5
  go_enter Try.func24, Try.ntmps24
  go_wp2_with (go_at_call 30; refine (K.out _).mono ?_; rintro e w' ⟨rfl, rfl⟩)
  go_ret2
  exact ⟨rfl, Below.refl _ _⟩
set_option maxRecDepth 100000 in
set_option maxHeartbeats 2000000 in
theorem rto_fin (x y : Int) (h : Word x) (h0 : 0 ≤ y) (h5 : y ≤ 5) (hk : kindI x < 3) (w : World) : Calls Try.prog 24 #[.int .u64 x, .int .i64 y] w (IntPost (toV (natX y x) (negB x)) (toE (natX y x) (negB x)) w) := by
  obtain ⟨k, ek⟩ : ∃ z, kindI x = z := ⟨_, rfl⟩
  have K := Lib.hid (fun W => rkind_vars x k h ek W)
  have NA := Lib.hid (fun W => nat6_any x y h h0 h5 W)
  have n0 := (holds_whole y h hk).n0
  rw [ek] at hk
  have h0' : ¬ y < 0 := by omega
  have h5' : ¬ 5 < y := by omega
  generalize natX y x = N at *
  generalize negB x = s at *
  clear h ek h0 h5
  have T : Hid (toV N s = (if 9223372036854775808 < N ∨ (N = 9223372036854775808 ∧ s = false) then 0 else if s = true then -N else N)) := rfl
  have E : Hid (toE N s = (if 9223372036854775808 < N ∨ (N = 9223372036854775808 ∧ s = false) then 6 else 0)) := rfl
  generalize toV N s = tv at *
  generalize toE N s = te at *
  go_enter Try.func24, Try.ntmps24
  go_wp2_with (go_at_call 30; refine (K.out _).mono ?_; rintro e w' ⟨rfl, rfl⟩)
  refine (NA.out _).mono ?_
  rintro e w1 ⟨A1, n1, c1, l1, rfl, hs1, hn1, n1b, hv1, hb1⟩
  have CV := Lib.hid (rvalue_any A1 n1 c1 l1 w1 hs1 (by omega))
  rw [hv1] at CV
  clear hs1 hn1 hv1 NA K
  by_cases g1 : N < 18446744073709551616
  · unfold ValPost at CV
    rw [if_pos g1, show decide (N < 18446744073709551616) = true by simpa using g1] at CV
    go_wp2_with fail
    refine CV.out.mono ?_
    rintro e w2 ⟨rfl, hb2⟩
    have hB2 := hb1.trans (hb2.mono hb1.size)
    clear hb1 hb2 CV
    rcases Int.lt_trichotomy N 9223372036854775808 with g | g | g
    · have t1 : (N == 9223372036854775808) = false := by simp; omega
      have t2 : ¬ 9223372036854775808 < N := by omega
      have m1 : IntKind.i64.wrap N = N := by rw [IntKind.wrap_i64]; omega
      have m2 : IntKind.i64.wrap (IntKind.u64.wrap (-N)) = -N := by rw [IntKind.wrap_i64, IntKind.wrap_u64]; omega
      have fin : Hid (tv = (if s = true then -N else N) ∧ te = 0) := by
        have no : ¬ (9223372036854775808 < N ∨ (N = 9223372036854775808 ∧ s = false)) := by omega
        unfold Hid; rw [T.out, E.out, if_neg no, if_neg no]; exact ⟨rfl, rfl⟩
      clear T E
      cases s
      · go_wp2
        go_ret2
        exact ⟨by rw [fin.out.1, fin.out.2]; rfl, hB2⟩
      · go_wp2
        go_ret2
        exact ⟨by rw [fin.out.1, fin.out.2]; rfl, hB2⟩
    · subst g
      cases s
      · have fin : Hid (tv = 0 ∧ te = 6) := by unfold Hid; rw [T.out, E.out]; decide
        clear T E
        go_wp2
        go_ret2
        exact ⟨by rw [fin.out.1, fin.out.2]; rfl, hB2⟩
      · have fin : Hid (tv = -9223372036854775808 ∧ te = 0) := by unfold Hid; rw [T.out, E.out]; decide
        clear T E
        go_wp2
        go_ret2
        refine ⟨?_, hB2⟩
        have e1 : wrap64 (IntKind.u64.wrap (-9223372036854775808)) = -9223372036854775808 := by rw [IntKind.wrap_u64]; unfold wrap64; omega
        rw [fin.out.1, fin.out.2]
        show Ending.returned (.tuple #[.int .i64 (wrap64 (IntKind.u64.wrap (-9223372036854775808))), .int .i64 0]) = _
        rw [e1]
    · have fin : Hid (tv = 0 ∧ te = 6) := by unfold Hid; rw [T.out, E.out, if_pos (.inl g), if_pos (.inl g)]; exact ⟨rfl, rfl⟩
      clear T E
      go_wp2
      go_ret2
      exact ⟨by rw [fin.out.1, fin.out.2]; rfl, hB2⟩
  · unfold ValPost at CV
    rw [if_neg g1, show decide (N < 18446744073709551616) = false by simpa using g1] at CV
    have g : 9223372036854775808 < N := by omega
    have fin : Hid (tv = 0 ∧ te = 6) := by unfold Hid; rw [T.out, E.out, if_pos (.inl g), if_pos (.inl g)]; exact ⟨rfl, rfl⟩
    clear T E
    go_wp2_with fail
    refine CV.out.mono ?_
    rintro e w2 ⟨rfl, hb2⟩
    have hB2 := hb1.trans (hb2.mono hb1.size)
    go_wp2
    go_ret2
    exact ⟨by rw [fin.out.1, fin.out.2]; rfl, hB2⟩
theorem to_both (x y : Int) (h : Word x) : ∃ v k : Int, (∀ W, Calls Try.prog 23 #[.int .u64 x, .int .i64 y] W (IntPost v k W)) ∧ (∀ W, Calls Try.prog 24 #[.int .u64 x, .int .i64 y] W (IntPost v k W)) := by
  by_cases c : y < 0 ∨ 5 < y
  · exact ⟨0, 1, fun W => to_arg x y h c W, fun W => rto_arg x y c W⟩
  · by_cases d : kindI x < 3
    · exact ⟨_, _, fun W => to_fin x y h (by omega) (by omega) d W, fun W => rto_fin x y h (by omega) (by omega) d W⟩
    · exact ⟨0, 11, fun W => to_none x y h (by omega) (by omega) (by omega) W, fun W => rto_none x y h (by omega) (by omega) (by omega) W⟩
end Go.Proofs.Ytomeidbigofnaaa
