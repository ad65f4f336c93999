/-
  The walks of package wide: Times, Drop.
-/
import Derived.Test.YtogldkjhcmlneaaW2
namespace Go.Proofs.Ytogldkjhcmlneaa
open Go.RowKit Go.Shelf

set_option maxHeartbeats 400000 in
theorem mul_exact (x y : Int) (h1 : Word x) (h2 : Word y) (w : World) :
    Calls Try.prog 15 #[.int .u64 x, .int .u64 y] w fun e w' => e = .returned (.agg #[.int .u64 (x * y / 18446744073709551616), .int .u64 (x * y % 18446744073709551616)]) ∧ ∃ c, w' = w.alloc (.cells c 24) := by
  have H1 := Lib.hid h1; have H2 := Lib.hid h2; clear h1 h2
  go_enter Try.func15, Try.ntmps15
  go_wp2_with (go_at_call 43; refine (mul64 x y H1.out H2.out _).mono ?_; rintro e w' ⟨rfl, rfl⟩)
  simp [bodyPost, results, Try.results15, go_sem]
  exact ⟨_, rfl⟩

theorem mul_vars (x y hi lo : Int) (h1 : Word x) (h2 : Word y) (e1 : x * y / 18446744073709551616 = hi) (e2 : x * y % 18446744073709551616 = lo) (w : World) :
    Calls Try.prog 15 #[.int .u64 x, .int .u64 y] w fun e w' => e = .returned (.agg #[.int .u64 hi, .int .u64 lo]) ∧ ∃ c, w' = w.alloc (.cells c 24) := by
  subst e1; subst e2; exact mul_exact x y h1 h2 w

/-- The number of three words. -/
def val3 (h m l : Int) : Int := h * 340282366920938463463374607431768211456 + m * 18446744073709551616 + l
/-- What Times answers. -/
def U192Post (s : Int) (w : World) (e : Ending) (w' : World) : Prop :=
  ∃ h m l : Int, e = .returned (.agg #[.int .u64 h, .int .u64 m, .int .u64 l]) ∧ Word h ∧ Word m ∧ Word l ∧ val3 h m l = s ∧ Below w.heap.size w w'
theorem times_mk (h l b lh ll hh hl : Int) (h1 : Word h) (h2 : Word l) (h3 : Word b) (e1 : l * b / 18446744073709551616 = lh) (e2 : l * b % 18446744073709551616 = ll) (e3 : h * b / 18446744073709551616 = hh) (e4 : h * b % 18446744073709551616 = hl) (w w' : World) (hb : Below w.heap.size w w') :
    U192Post (val h l * b) w (.returned (.agg #[.int .u64 (hh + (lh + hl) / 18446744073709551616), .int .u64 ((lh + hl) % 18446744073709551616), .int .u64 ll])) w' := by
  have k1 := mul_bd h b h1 h3
  have k2 := mul_bd l b h2 h3
  have e : val h l * b = (h * b) * 18446744073709551616 + l * b := by
    unfold val; rw [Int.add_mul, Int.mul_assoc, Int.mul_comm 18446744073709551616 b, ← Int.mul_assoc]
  rw [e]
  generalize h * b = x at *
  generalize l * b = y at *
  clear e
  subst e1; subst e2; subst e3; subst e4
  refine ⟨_, _, _, rfl, ?_, ?_, ?_, ?_, hb⟩
  · unfold Word; omega
  · unfold Word; omega
  · unfold Word; omega
  · unfold val3; omega
theorem times_sum (h b lh hl hh : Int) (l : Int) (h1 : Word h) (h2 : Word l) (h3 : Word b) (e1 : l * b / 18446744073709551616 = lh) (e3 : h * b / 18446744073709551616 = hh) (e4 : h * b % 18446744073709551616 = hl) :
    0 ≤ lh ∧ 0 ≤ hl ∧ 0 ≤ hh ∧ hh ≤ 18446744073709551614 ∧ 0 ≤ (lh + hl) / 18446744073709551616 ∧ (lh + hl) / 18446744073709551616 ≤ 1 := by
  have k1 := mul_bd h b h1 h3
  have k2 := mul_bd l b h2 h3
  generalize h * b = x at *
  generalize l * b = y at *
  omega

set_option maxHeartbeats 2000000 in
theorem times_any (h l b : Int) (h1 : Word h) (h2 : Word l) (h3 : Word b) (w : World) :
    Calls Try.prog 31 #[.agg #[.int .u64 h, .int .u64 l], .int .u64 b] w (U192Post (val h l * b) w) := by
  obtain ⟨lh, e1⟩ : ∃ z, l * b / 18446744073709551616 = z := ⟨_, rfl⟩
  obtain ⟨ll, e2⟩ : ∃ z, l * b % 18446744073709551616 = z := ⟨_, rfl⟩
  obtain ⟨hh, e3⟩ : ∃ z, h * b / 18446744073709551616 = z := ⟨_, rfl⟩
  obtain ⟨hl, e4⟩ : ∃ z, h * b % 18446744073709551616 = z := ⟨_, rfl⟩
  have Hm := Lib.hid (times_mk h l b lh ll hh hl h1 h2 h3 e1 e2 e3 e4)
  obtain ⟨s1, s2, s3, s4, s5, s6⟩ := times_sum h b lh hl hh l h1 h2 h3 e1 e3 e4
  have H1 := Lib.hid h1; have H2 := Lib.hid h2; have H3 := Lib.hid h3; clear h1 h2 h3
  have E1 := Lib.hid e1; have E2 := Lib.hid e2; have E3 := Lib.hid e3; have E4 := Lib.hid e4; clear e1 e2 e3 e4
  go_enter Try.func31, Try.ntmps31
  go_wp2_with fail
  go_region_held3 (fun w' => w'.cell? ⟨w.heap.size, 0, none⟩ = some (.int .u64 h) ∧ w'.cell? ⟨w.heap.size, 1, none⟩ = some (.int .u64 l)) (simp [*, go_sem, World.cell?_alloc_past])
        (first
          | (go_at_call_of 15 (Value.int IntKind.u64 l); refine (mul_vars l b lh ll H2.out H3.out E1.out E2.out _).mono ?_; rintro e w1 ⟨rfl, c1, rfl⟩)
          | (go_at_call 15; refine (mul_vars h b hh hl H1.out H3.out E3.out E4.out _).mono ?_; rintro e w2 ⟨rfl, c2, rfl⟩))
  all_goals go_wp2_with (simp only [add64_0 lh hl s1 s2])
  all_goals simp [bodyPost, results, Try.results31, go_sem]
  all_goals refine Hm.out _ _ ?_
  all_goals repeat (first | exact Below.refl _ _ | refine Below.drew ?_ | refine Below.alloc ?_ (by first | (simp; done) | (simp; omega)) _)
end Go.Proofs.Ytogldkjhcmlneaa
