/-
  whole.To: walked.
-/
import Derived.Test.YtomeidbigofnaaaJ0
import Derived.Test.YtomeidbigofnaaaH1
namespace Go.Proofs.Ytomeidbigofnaaa
open Go.RowKit Go.Shelf

/-- The int and the error that a finite number's whole part gives. -/
def toV (N : Int) (s : Bool) : Int := if 9223372036854775808 < N ∨ (N = 9223372036854775808 ∧ s = false) then 0 else if s = true then -N else N
def toE (N : Int) (s : Bool) : Int := if 9223372036854775808 < N ∨ (N = 9223372036854775808 ∧ s = false) then 6 else 0
def IntPost (v k : Int) (w : World) (e : Ending) (w' : World) : Prop := e = .returned (.tuple #[.int .i64 v, .int .i64 k]) ∧ Below w.heap.size w w'

theorem w64 {x : Int} (h0 : -9223372036854775808 ≤ x) (h1 : x < 9223372036854775808) : wrap64 x = x := by
  unfold wrap64
  omega
theorem to_arg (x y : Int) (h : Word x) (h0 : y < 0 ∨ 5 < y) (w : World) : Calls Try.prog 23 #[.int .u64 x, .int .i64 y] w (IntPost 0 1 w) := by
  have A := Lib.hid (fun W => whole_arg x y h h0 W)
  clear h h0
  go_enter Try.func23, Try.ntmps23
  go_wp2_with fail
  refine (A.out _).mono ?_
  rintro e w1 ⟨rfl, hb1⟩
  go_wp2
  go_ret2
  exact ⟨rfl, hb1⟩
set_option maxRecDepth 100000 in
set_option maxHeartbeats 1000000 in
theorem to_none (x y : Int) (h : Word x) (h0 : 0 ≤ y) (h5 : y ≤ 5) (hk : 3 ≤ kindI x) (w : World) : Calls Try.prog 23 #[.int .u64 x, .int .i64 y] w (IntPost 0 11 w) := by
  have A := Lib.hid (fun W => whole_at x y h h0 h5 W)
  obtain ⟨k, ek⟩ : ∃ z, kindI x = z := ⟨_, rfl⟩
  have K := Lib.hid (fun W => kind_vars x k h ek W)
  rw [ek] at hk
  generalize wholeV y x = V at *
  clear h h0 h5 ek
  go_enter Try.func23, Try.ntmps23
  go_wp2_with fail
  refine (A.out _).mono ?_
  rintro e w1 ⟨rfl, hb1⟩
  go_wp2_with (go_at_call 25; refine (K.out _).mono ?_; rintro e w' ⟨rfl, rfl⟩)
  go_ret2
  exact ⟨rfl, hb1⟩
theorem xfm (W : World) : Calls Try.prog 41 #[.int .u64 14114281232179134464] W fun e w' => e = .returned (.int .u64 4890909195324358656) ∧ W = w' := t_neg W
set_option maxRecDepth 100000 in
set_option maxHeartbeats 4000000 in
theorem to_fin (x y : Int) (h : Word x) (h0 : 0 ≤ y) (h5 : y ≤ 5) (hk : kindI x < 3) (w : World) : Calls Try.prog 23 #[.int .u64 x, .int .i64 y] w (IntPost (toV (natX y x) (negB x)) (toE (natX y x) (negB x)) w) := by
  have A := Lib.hid (fun W => whole_at x y h h0 h5 W)
  obtain ⟨k, ek⟩ : ∃ z, kindI x = z := ⟨_, rfl⟩
  have K := Lib.hid (fun W => kind_vars x k h ek W)
  have H := Lib.hid (holds_whole y h hk)
  rw [ek] at hk
  generalize wholeV y x = V at *
  generalize natX y x = N at *
  generalize negB x = s at *
  clear h h0 h5 ek
  have HW := H.out.w
  have S := Lib.hid (fun W => split_any V HW W)
  rw [H.out.neg] at S
  have R := Lib.hid (fun W => abs_any V HW W)
  have er : rightI V = V := by unfold rightI; rw [if_neg (by have := H.out.fin; omega)]
  rw [er] at R
  have ab : 0 ≤ absI V ∧ absI V < 9223372036854775808 := by unfold absI; omega
  have rk : rankI (absI V) = absI V := by unfold rankI negB; rw [if_neg (by simp; omega)]
  have RK := Lib.hid (fun W => wrank_any (absI V) ⟨by omega, by omega⟩ W)
  rw [rk] at RK
  have vs : V = signI s + absI V := by rw [← H.out.neg]; exact abs_split V HW
  have n0 := H.out.n0
  by_cases c1 : V = 14114281232179134464
  · have ea : absI V = 4890909195324358656 := by rw [c1]; decide +kernel
    have eN := H.out.eq.2 ea
    have es : s = true := by rw [← H.out.neg, c1]; decide +kernel
    have fin : Hid (toV N s = -9223372036854775808 ∧ toE N s = 0) := by unfold Hid; rw [eN, es]; decide
    generalize mantI V = M at *
    generalize powI V = E at *
    generalize toV N s = tv at *
    generalize toE N s = te at *
    clear H HW R RK er ab rk ea vs
    subst c1
    go_enter Try.func23, Try.ntmps23
    go_wp2_with fail
    refine (A.out _).mono ?_
    rintro e w1 ⟨rfl, hb1⟩
    go_wp2_with (first | (go_at_call 25; refine (K.out _).mono ?_; rintro e w' ⟨rfl, rfl⟩) | (go_at_call 39; refine (S.out _).mono ?_; rintro e w' ⟨rfl, rfl⟩))
    refine (xf1 _).mono ?_
    rintro e w2 ⟨rfl, hb2⟩
    have hB2 := hb1.trans (hb2.mono hb1.size)
    go_wp2
    go_ret2
    exact ⟨by rw [fin.out.1, fin.out.2]; rfl, hB2⟩
  have t1 : (V == 14114281232179134464) = false := by simpa using c1
  have ns : ¬ (N = 9223372036854775808 ∧ s = true) := by
    rintro ⟨a, rfl⟩
    rw [H.out.eq.1 a] at vs
    exact c1 vs
  by_cases c2 : 4890909195324358656 ≤ absI V
  · have eN := H.out.big.2 c2
    have fin : Hid (toV N s = 0 ∧ toE N s = 6) := by
      have : 9223372036854775808 < N ∨ (N = 9223372036854775808 ∧ s = false) := by cases s <;> simp at ns ⊢ <;> omega
      unfold Hid toV toE; rw [if_pos this, if_pos this]; exact ⟨rfl, rfl⟩
    generalize mantI V = M at *
    generalize powI V = E at *
    generalize toV N s = tv at *
    generalize toE N s = te at *
    generalize absI V = a at *
    clear H HW er rk vs c1 ns eN
    go_enter Try.func23, Try.ntmps23
    go_wp2_with fail
    refine (A.out _).mono ?_
    rintro e w1 ⟨rfl, hb1⟩
    go_wp2_with (first | (go_at_call 25; refine (K.out _).mono ?_; rintro e w' ⟨rfl, rfl⟩) | (go_at_call 39; refine (S.out _).mono ?_; rintro e w' ⟨rfl, rfl⟩))
    refine (xf1 _).mono ?_
    rintro e w2 ⟨rfl, hb2⟩
    have hB2 := hb1.trans (hb2.mono hb1.size)
    clear hb1 hb2
    go_wp2_with (first | (go_at_call 40; refine (R.out _).mono ?_; rintro e w' ⟨rfl, rfl⟩) | (go_at_call 26; refine (RK.out _).mono ?_; rintro e w' ⟨rfl, rfl⟩))
    refine (xf1 _).mono ?_
    rintro e w3 ⟨rfl, hb3⟩
    have hB3 := hB2.trans (hb3.mono hB2.size)
    clear hb3 hB2
    go_wp2_with (first | (go_at_call 26; refine (t_rank1 _).mono ?_; rintro e w' ⟨rfl, rfl⟩) | (go_at_call 41; refine (t_neg _).mono ?_; rintro e w' ⟨rfl, rfl⟩))
    go_ret2
    exact ⟨by rw [fin.out.1, fin.out.2]; rfl, hB3⟩
  have n1 : N < 9223372036854775808 := by
    rcases Int.lt_or_le N 9223372036854775808 with z | z
    · exact z
    · exact absurd (H.out.big.1 z) c2
  have fin : Hid (toV N s = (if s = true then -N else N) ∧ toE N s = 0) := by
    have : ¬ (9223372036854775808 < N ∨ (N = 9223372036854775808 ∧ s = false)) := by omega
    unfold Hid toV toE; rw [if_neg this, if_neg this]; exact ⟨rfl, rfl⟩
  obtain ⟨m0, m1, p0, p1⟩ := mant_bd V HW
  have U := H.out.up
  have D := H.out.dn
  generalize mantI V = M at *
  generalize powI V = E at *
  generalize toV N s = tv at *
  generalize toE N s = te at *
  generalize absI V = a at *
  clear H HW er rk vs c1 ns
  have wM : IntKind.i64.wrap M = M := by rw [IntKind.wrap_i64]; omega
  have wN : IntKind.i64.wrap N = N := by rw [IntKind.wrap_i64]; omega
  have wm : IntKind.i64.wrap (-N) = -N := by rw [IntKind.wrap_i64]; omega
  have wE : IntKind.i64.wrap (-E) = -E := by rw [IntKind.wrap_i64]; omega
  by_cases c3 : 0 ≤ E
  · obtain ⟨u1, u2⟩ := U c3
    have u3 := u2 n1
    have hx : M * 2 ^ E.toNat = N := u1.symm
    clear U D u1 u2
    go_enter Try.func23, Try.ntmps23
    go_wp2_with fail
    refine (A.out _).mono ?_
    rintro e w1 ⟨rfl, hb1⟩
    go_wp2_with (first | (go_at_call 25; refine (K.out _).mono ?_; rintro e w' ⟨rfl, rfl⟩) | (go_at_call 39; refine (S.out _).mono ?_; rintro e w' ⟨rfl, rfl⟩))
    refine (xf1 _).mono ?_
    rintro e w2 ⟨rfl, hb2⟩
    have hB2 := hb1.trans (hb2.mono hb1.size)
    clear hb1 hb2
    go_wp2_with (first | (go_at_call 40; refine (R.out _).mono ?_; rintro e w' ⟨rfl, rfl⟩) | (go_at_call 26; refine (RK.out _).mono ?_; rintro e w' ⟨rfl, rfl⟩))
    refine (xf1 _).mono ?_
    rintro e w3 ⟨rfl, hb3⟩
    have hB3 := hB2.trans (hb3.mono hB2.size)
    clear hb3 hB2
    cases s
    · go_wp2_with (first | (go_at_call 26; refine (t_rank1 _).mono ?_; rintro e w' ⟨rfl, rfl⟩) | (go_at_call 41; refine (t_neg _).mono ?_; rintro e w' ⟨rfl, rfl⟩))
      go_ret2
      exact ⟨by rw [fin.out.1, fin.out.2]; rfl, hB3⟩
    · go_wp2_with (first | (go_at_call 26; refine (t_rank1 _).mono ?_; rintro e w' ⟨rfl, rfl⟩) | (go_at_call 41; refine (t_neg _).mono ?_; rintro e w' ⟨rfl, rfl⟩))
      go_ret2
      exact ⟨by rw [fin.out.1, fin.out.2]; rfl, hB3⟩
  · have hx := D (by omega)
    clear U D
    go_enter Try.func23, Try.ntmps23
    go_wp2_with fail
    refine (A.out _).mono ?_
    rintro e w1 ⟨rfl, hb1⟩
    go_wp2_with (first | (go_at_call 25; refine (K.out _).mono ?_; rintro e w' ⟨rfl, rfl⟩) | (go_at_call 39; refine (S.out _).mono ?_; rintro e w' ⟨rfl, rfl⟩))
    refine (xf1 _).mono ?_
    rintro e w2 ⟨rfl, hb2⟩
    have hB2 := hb1.trans (hb2.mono hb1.size)
    clear hb1 hb2
    go_wp2_with (first | (go_at_call 40; refine (R.out _).mono ?_; rintro e w' ⟨rfl, rfl⟩) | (go_at_call 26; refine (RK.out _).mono ?_; rintro e w' ⟨rfl, rfl⟩))
    refine (xf1 _).mono ?_
    rintro e w3 ⟨rfl, hb3⟩
    have hB3 := hB2.trans (hb3.mono hB2.size)
    clear hb3 hB2
    cases s
    · go_wp2_with (first | (go_at_call 26; refine (t_rank1 _).mono ?_; rintro e w' ⟨rfl, rfl⟩) | (go_at_call 41; refine (t_neg _).mono ?_; rintro e w' ⟨rfl, rfl⟩))
      go_ret2
      refine ⟨?_, hB3⟩
      rw [fin.out.1, fin.out.2]
      have e1 : wrap64 (M / 2 ^ (min (-E) 63).toNat) = N := by rw [show M / 2 ^ (min (-E) 63).toNat = N from hx.symm]; exact w64 (by omega) (by omega)
      show Ending.returned (.tuple #[.int .i64 (wrap64 (M / 2 ^ (min (-E) 63).toNat)), .int .i64 0]) = _
      rw [e1]; rfl
    · go_wp2_with (first | (go_at_call 26; refine (t_rank1 _).mono ?_; rintro e w' ⟨rfl, rfl⟩) | (go_at_call 41; refine (t_neg _).mono ?_; rintro e w' ⟨rfl, rfl⟩))
      go_ret2
      refine ⟨?_, hB3⟩
      rw [fin.out.1, fin.out.2]
      have e1 : wrap64 (M / 2 ^ (min (-E) 63).toNat) = N := by rw [show M / 2 ^ (min (-E) 63).toNat = N from hx.symm]; exact w64 (by omega) (by omega)
      show Ending.returned (.tuple #[.int .i64 (wrap64 (-wrap64 (M / 2 ^ (min (-E) 63).toNat))), .int .i64 0]) = _
      rw [e1, show wrap64 (-N) = -N from w64 (by omega) (by omega)]; rfl
end Go.Proofs.Ytomeidbigofnaaa
