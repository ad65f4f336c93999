/-
  whole's cut: walked.
-/
import Derived.Test.YtnefacnceemklaaDoorG3
import Derived.Test.YtnefacnceemklaaDoorG2
namespace Go.Proofs.YtnefacnceemklaaDoor
open Go.RowKit Go.Shelf

/-- What cut tells of a finite number: a whole part, a rest, what is one: in units of its own. -/
structure CutAt (x q r o : Int) : Prop where
  q0 : Word q
  r0 : Word r
  o0 : Word o
  z : r = 0 ↔ leftI x = 0
  q : r ≠ 0 → q = wholI x ∧ q < 9007199254740992
  half : r ≠ 0 → cmpI r (o / 2) = cmpI (2 * leftI x) (pw (-powI x))
def CutPost (x : Int) (w : World) (e : Ending) (w' : World) : Prop :=
  ∃ q r o, e = .returned (.agg #[.bool (negB x), .int .u64 q, .int .u64 r, .int .u64 o]) ∧ CutAt x q r o ∧ Below w.heap.size w w'
theorem cut_mk {x q r o : Int} {s : Bool} {w w' : World} (hs : negB x = s) (h : CutAt x q r o) (hb : Below w.heap.size w w') : CutPost x w (.returned (.agg #[.bool s, .int .u64 q, .int .u64 r, .int .u64 o])) w' := ⟨q, r, o, by rw [hs], h, hb⟩
theorem cut_big {x : Int} (h : Word x) (c : 0 ≤ powI x) : CutAt x (mantI x) 0 1 := by
  obtain ⟨m0, m1, p0, p1⟩ := mant_bd x h
  refine ⟨⟨m0, by omega⟩, by decide, by decide, ?_, fun e => absurd rfl e, fun e => absurd rfl e⟩
  unfold leftI; rw [if_pos c]
theorem cut_tiny {x : Int} (h : Word x) (c : powI x < -62) (hm : mantI x ≠ 0) : CutAt x 0 1 4611686018427387904 := by
  obtain ⟨m0, m1, p0, p1⟩ := mant_bd x h
  obtain ⟨a, b, d⟩ := left_small h c
  refine ⟨by decide, by decide, by decide, ?_, fun _ => ⟨a.symm, by decide⟩, fun _ => ?_⟩
  · rw [b]; constructor <;> intro e <;> omega
  · rw [b]; unfold cmpI; rw [if_pos d]; decide
theorem cut_nil {x : Int} (h : Word x) (c : powI x < -62) (hm : mantI x = 0) : CutAt x 0 0 1 := by
  obtain ⟨a, b, d⟩ := left_small h c
  refine ⟨by decide, by decide, by decide, ?_, fun e => absurd rfl e, fun e => absurd rfl e⟩
  rw [b, hm]
theorem cut_mid {x : Int} (h : Word x) (c : powI x < 0) (c2 : -62 ≤ powI x) : CutAt x (mantI x / pw (-powI x)) (mantI x % pw (-powI x)) (pw (-powI x)) := by
  obtain ⟨m0, m1, p0, p1⟩ := mant_bd x h
  have hp := pw_pos (-powI x)
  have hb : pw (-powI x) ≤ 4611686018427387904 := by
    have := pw_mono (a := -powI x) (b := 62) (by omega) (by omega)
    rw [show pw 62 = 4611686018427387904 from rfl] at this; exact this
  have hh : pw (-powI x) = 2 * pw (-powI x - 1) := by
    have := pw_succ (-powI x - 1) (by omega)
    rw [show -powI x - 1 + 1 = -powI x by omega] at this
    omega
  have q1 := Int.ediv_le_self (pw (-powI x)) m0
  have q2 := Int.ediv_nonneg m0 (Int.le_of_lt hp)
  have r1 := Int.emod_lt_of_pos (mantI x) hp
  have r2 := Int.emod_nonneg (mantI x) (Int.ne_of_gt hp)
  have l : leftI x = mantI x % pw (-powI x) := by unfold leftI; rw [if_neg (by omega)]
  have w : wholI x = mantI x / pw (-powI x) := by unfold wholI; rw [if_neg (by omega)]
  refine ⟨⟨q2, by omega⟩, ⟨r2, by omega⟩, ⟨by omega, by omega⟩, by rw [l], fun _ => ⟨w.symm, by omega⟩, fun _ => ?_⟩
  rw [l]
  generalize mantI x % pw (-powI x) = r at *
  rw [hh] at *
  generalize pw (-powI x - 1) = u at *
  have e : 2 * u / 2 = u := by omega
  rw [e]
  unfold cmpI
  rcases Int.lt_trichotomy r u with c | c | c
  · rw [if_pos c, if_pos (by omega)]
  · rw [if_neg (by omega), if_pos c, if_neg (by omega), if_pos (by omega)]
  · rw [if_neg (by omega), if_neg (by omega), if_neg (by omega), if_neg (by omega)]

set_option maxRecDepth 100000 in
set_option maxHeartbeats 1000000 in
theorem cut_any (x : Int) (h : Word x) (w : World) : Calls Tryd.prog 67 #[.int .u64 x] w (CutPost x w) := by
  have SP := Lib.hid (fun W => split_any x h W)
  obtain ⟨m0, m1, p0, p1⟩ := mant_bd x h
  obtain ⟨s, hs⟩ : ∃ z, negB x = z := ⟨_, rfl⟩
  obtain ⟨m, hm⟩ : ∃ z, mantI x = z := ⟨_, rfl⟩
  obtain ⟨p, hp⟩ : ∃ z, powI x = z := ⟨_, rfl⟩
  rw [hm] at m0 m1; rw [hp] at p0 p1
  rw [hs, hm, hp] at SP
  have HS := Lib.hid hs
  by_cases c1 : 0 ≤ p
  · have fin := Lib.hid (cut_big h (by rw [hp]; exact c1))
    rw [hm] at fin
    clear hs hm hp h
    go_enter Tryd.func67, Tryd.ntmps67
    go_wp2_with (go_at_call 56; refine (SP.out _).mono ?_; rintro e w' ⟨rfl, rfl⟩)
    simp [bodyPost, results, Tryd.results67, go_sem]
    exact cut_mk HS.out fin.out (((Below.refl _ _).alloc (Nat.le_refl _) _))
  by_cases c2 : p < -62
  · by_cases mz : m = 0
    · have fin := Lib.hid (cut_nil h (by rw [hp]; exact c2) (by rw [hm]; exact mz))
      have t1 : (m != 0) = false := by simpa using mz
      clear hs hm hp h
      go_enter Tryd.func67, Tryd.ntmps67
      go_wp2_with (go_at_call 56; refine (SP.out _).mono ?_; rintro e w' ⟨rfl, rfl⟩)
      simp [bodyPost, results, Tryd.results67, go_sem]
      exact cut_mk HS.out fin.out (((Below.refl _ _).alloc (Nat.le_refl _) _))
    · have fin := Lib.hid (cut_tiny h (by rw [hp]; exact c2) (by rw [hm]; exact mz))
      have t1 : (m != 0) = true := by simpa using mz
      clear hs hm hp h
      go_enter Tryd.func67, Tryd.ntmps67
      go_wp2_with (go_at_call 56; refine (SP.out _).mono ?_; rintro e w' ⟨rfl, rfl⟩)
      simp [bodyPost, results, Tryd.results67, go_sem]
      exact cut_mk HS.out fin.out (((Below.refl _ _).alloc (Nat.le_refl _) _))
  have fin := Lib.hid (cut_mid h (by rw [hp]; omega) (by rw [hp]; omega))
  rw [hm, hp] at fin
  obtain ⟨o, ho⟩ : ∃ z, pw (-p) = z := ⟨_, rfl⟩
  have o0 : 1 ≤ o := by have := pw_pos (-p); omega
  have o1 : o ≤ 4611686018427387904 := by
    have := pw_mono (a := -p) (b := 62) (by omega) (by omega)
    rw [show pw 62 = 4611686018427387904 from rfl] at this; omega
  have e1 : (2 : Int) ^ (-p).toNat = o := (pw_eq _).trans ho
  have e2 : bits .and .u64 m (o - 1) = m % o := by
    have k := mask_var m (-p) ⟨m0, by omega⟩ (by omega)
    rw [Nat.min_eq_left (by omega), e1, IntKind.wrap_u64, IntKind.wrap_u64, Int.emod_eq_of_lt (show 0 ≤ o by omega) (by omega), Int.emod_eq_of_lt (by omega) (by omega), ho] at k
    exact k
  rw [ho] at fin
  obtain ⟨q, hq⟩ : ∃ z, m / o = z := ⟨_, rfl⟩
  obtain ⟨r, hr⟩ : ∃ z, m % o = z := ⟨_, rfl⟩
  rw [hq, hr] at fin
  rw [hr] at e2
  clear hs hm hp h ho hr
  go_enter Tryd.func67, Tryd.ntmps67
  go_wp2_with (go_at_call 56; refine (SP.out _).mono ?_; rintro e w' ⟨rfl, rfl⟩)
  simp [bodyPost, results, Tryd.results67, go_sem]
  exact cut_mk HS.out fin.out (((Below.refl _ _).alloc (Nat.le_refl _) _))
end Go.Proofs.YtnefacnceemklaaDoor
