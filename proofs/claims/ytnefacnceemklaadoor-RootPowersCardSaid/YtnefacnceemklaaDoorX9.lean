/-
  The document on the fused product: walked.
-/
import Derived.Test.YtnefacnceemklaaDoorK7
import Derived.Test.YtnefacnceemklaaDoorK11a
import Derived.Test.YtnefacnceemklaaDoorX5
/-
  The document's fused product and sum: walked.
-/
namespace Go.Proofs.YtnefacnceemklaaDoor
open Go.RowKit Go.Shelf

theorem fma_sum {a b c : Int} (h1 : Word a) (h2 : Word b) (h3 : Word c) (ka : kindI a < 3) (kb : kindI b < 3) (kc : kindI c < 3) {g : Bool} {v : Int}
    (h : IsSum (sgn (negB a != negB b) (XI a * XI b) + sgn (negB c) (XI c * pw 1074)) g v) :
    (v ≠ 0 → fmaV a b c = rndI g v (-2148)) ∧ (v = 0 → fmaV a b c = if (kindI a = 0 ∨ kindI b = 0) ∧ kindI c = 0 ∧ (negB a != negB b) = true ∧ negB c = true then 9223372036854775808 else 0) := by
  have p := pw_pos 1074
  have xa := XI_nonneg a h1
  have xb := XI_nonneg b h2
  have xc := XI_nonneg c h3
  have za := XI_zero a h1 (fin_of_kind h1 ka)
  have zb := XI_zero b h2 (fin_of_kind h2 kb)
  have zc := XI_zero c h3 (fin_of_kind h3 kc)
  rw [← kind_zero] at za zb zc
  unfold fmaV fmaK
  rw [if_neg (by omega), if_neg (by omega), if_neg (by omega)]
  have main : v ≠ 0 → R2 (sgn (negB a != negB b) (XI a * XI b) + sgn (negB c) (XI c * pw 1074)) = rndI g v (-2148) := fun hv => by
    rw [h.e]
    have := h.v0
    exact R2_of g (by omega)
  by_cases z : kindI a = 0 ∨ kindI b = 0
  · have pz : XI a * XI b = 0 := by
      rcases z with z | z
      · rw [za.2 z, Int.zero_mul]
      · rw [zb.2 z, Int.mul_zero]
    have sz : ∀ s : Bool, sgn s 0 = 0 := fun s => by cases s <;> rfl
    rw [pz, sz, Int.zero_add] at h main
    rw [if_pos z]
    by_cases l0 : kindI c = 0
    · rw [if_pos l0]
      have vz : v = 0 := by
        have e := h.e
        rw [zc.2 l0, Int.zero_mul, sz] at e
        cases g <;> simp at e <;> omega
      refine ⟨fun hv => absurd vz hv, fun _ => ?_⟩
      generalize (negB a != negB b) = s
      generalize negB c = t
      cases s <;> cases t <;> simp [signI, z, l0]
    · rw [if_neg l0]
      have self := R2_self h3 kc l0
      have vn : v ≠ 0 := fun hv => by
        have e := h.e
        rw [hv] at e
        have q : XI c * pw 1074 ≠ 0 := fun hh => by
          rcases Int.mul_eq_zero.1 hh with hh | hh
          · exact l0 (zc.1 hh)
          · omega
        unfold sgn at e
        cases g <;> split at e <;> simp at e <;> omega
      refine ⟨fun hv => ?_, fun hv => absurd hv vn⟩
      rw [← main hv]; exact self.symm
  · rw [if_neg z]
    refine ⟨main, fun hv => ?_⟩
    rw [if_neg (fun hh => z hh.1), h.e, hv]
    cases g <;> rfl
set_option maxRecDepth 100000 in
set_option maxHeartbeats 8000000 in
theorem rfma_odd (a b c : Int) (h1 : Word a) (h2 : Word b) (h3 : Word c) (ho : ¬ (kindI a < 3 ∧ kindI b < 3 ∧ kindI c < 3)) (w : World) : Calls Tryd.prog 19 #[.int .u64 a, .int .u64 b, .int .u64 c] w (WordPost (fmaV a b c) w) := by
  obtain ⟨k, hk⟩ : ∃ z, kindI a = z := ⟨_, rfl⟩
  obtain ⟨j, hj⟩ : ∃ z, kindI b = z := ⟨_, rfl⟩
  obtain ⟨l, hl⟩ : ∃ z, kindI c = z := ⟨_, rfl⟩
  have bk := kind_bd a
  have bj := kind_bd b
  have bl := kind_bd c
  rw [hk] at bk ho; rw [hj] at bj ho; rw [hl] at bl ho
  have NA := Lib.hid (fun W => none5 a k h1 hk W)
  have NB := Lib.hid (fun W => none5 b j h2 hj W)
  have NC := Lib.hid (fun W => none5 c l h3 hl W)
  have EA := Lib.hid (fun W => endless5 a k h1 hk W)
  have EB := Lib.hid (fun W => endless5 b j h2 hj W)
  have EC := Lib.hid (fun W => endless5 c l h3 hl W)
  have ZA := Lib.hid (fun W => zero5 a k h1 hk W)
  have ZB := Lib.hid (fun W => zero5 b j h2 hj W)
  have ZC := Lib.hid (fun W => zero5 c l h3 hl W)
  have IA := Lib.hid (fun W => ris_any a W)
  have IB := Lib.hid (fun W => ris_any b W)
  have IC := Lib.hid (fun W => ris_any c W)
  have V : Hid (fmaV a b c = fmaK k j l (negB a != negB b) (negB c) c (R2 (sgn (negB a != negB b) (XI a * XI b) + sgn (negB c) (XI c * pw 1074)))) := by unfold Hid fmaV; rw [hk, hj, hl]
  obtain ⟨na, hna⟩ : ∃ z, negB a = z := ⟨_, rfl⟩
  obtain ⟨nb, hnb⟩ : ∃ z, negB b = z := ⟨_, rfl⟩
  rw [hna] at IA; rw [hnb] at IB
  rw [hna, hnb] at V
  obtain ⟨s, hs⟩ : ∃ z, (na != nb) = z := ⟨_, rfl⟩
  rw [hs] at V
  have hs2 : (!(na == nb)) = s := by rw [← hs]; rfl
  have WI := Lib.hid (fun W => with_inf s W)
  generalize R2 (sgn s (XI a * XI b) + sgn (negB c) (XI c * pw 1074)) = q at *
  generalize negB c = t at *
  generalize fmaV a b c = v at *
  clear h1 h2 h3 hk hj hl hna hnb hs
  by_cases n : k = 4 ∨ j = 4 ∨ l = 4
  · have fin : Hid (v = 9221120237041090560) := by unfold Hid; rw [V.out]; unfold fmaK; rw [if_pos (by omega)]
    clear V bk bj bl ho
    by_cases k4 : k = 4
    · subst k4
      clear n
      obtain ⟨j3, tj3⟩ : ∃ z, (j == 3) = z := ⟨_, rfl⟩
      go_enter Tryd.func19, Tryd.ntmps19
      go_wp2_with (first | (go_at_call_of 39 (Value.int IntKind.u64 a); refine (NA.out _).mono ?_; rintro e w' ⟨rfl, rfl⟩) | (go_at_call_of 40 (Value.int IntKind.u64 a); refine (EA.out _).mono ?_; rintro e w' ⟨rfl, rfl⟩) | (go_at_call_of 41 (Value.int IntKind.u64 a); refine (ZA.out _).mono ?_; rintro e w' ⟨rfl, rfl⟩) | (go_at_call_of 38 (Value.int IntKind.u64 a); refine (IA.out _).mono ?_; rintro e w' ⟨rfl, rfl⟩) | (go_at_call_of 39 (Value.int IntKind.u64 b); refine (NB.out _).mono ?_; rintro e w' ⟨rfl, rfl⟩) | (go_at_call_of 40 (Value.int IntKind.u64 b); refine (EB.out _).mono ?_; rintro e w' ⟨rfl, rfl⟩) | (go_at_call_of 41 (Value.int IntKind.u64 b); refine (ZB.out _).mono ?_; rintro e w' ⟨rfl, rfl⟩) | (go_at_call_of 38 (Value.int IntKind.u64 b); refine (IB.out _).mono ?_; rintro e w' ⟨rfl, rfl⟩) | (go_at_call_of 39 (Value.int IntKind.u64 c); refine (NC.out _).mono ?_; rintro e w' ⟨rfl, rfl⟩) | (go_at_call_of 40 (Value.int IntKind.u64 c); refine (EC.out _).mono ?_; rintro e w' ⟨rfl, rfl⟩) | (go_at_call_of 41 (Value.int IntKind.u64 c); refine (ZC.out _).mono ?_; rintro e w' ⟨rfl, rfl⟩) | (go_at_call_of 38 (Value.int IntKind.u64 c); refine (IC.out _).mono ?_; rintro e w' ⟨rfl, rfl⟩) | (go_at_call 42; refine (WI.out _).mono ?_; rintro e w' ⟨rfl, rfl⟩))
      go_ret
      exact ⟨by rw [fin.out]; rfl, Below.refl _ _⟩
    have t1 : (k == 4) = false := by simpa using k4
    by_cases j4 : j = 4
    · subst j4
      clear n
      obtain ⟨k3, tk3⟩ : ∃ z, (k == 3) = z := ⟨_, rfl⟩
      cases k3
      all_goals
        go_enter Tryd.func19, Tryd.ntmps19
        go_wp2_with (first | (go_at_call_of 39 (Value.int IntKind.u64 a); refine (NA.out _).mono ?_; rintro e w' ⟨rfl, rfl⟩) | (go_at_call_of 40 (Value.int IntKind.u64 a); refine (EA.out _).mono ?_; rintro e w' ⟨rfl, rfl⟩) | (go_at_call_of 41 (Value.int IntKind.u64 a); refine (ZA.out _).mono ?_; rintro e w' ⟨rfl, rfl⟩) | (go_at_call_of 38 (Value.int IntKind.u64 a); refine (IA.out _).mono ?_; rintro e w' ⟨rfl, rfl⟩) | (go_at_call_of 39 (Value.int IntKind.u64 b); refine (NB.out _).mono ?_; rintro e w' ⟨rfl, rfl⟩) | (go_at_call_of 40 (Value.int IntKind.u64 b); refine (EB.out _).mono ?_; rintro e w' ⟨rfl, rfl⟩) | (go_at_call_of 41 (Value.int IntKind.u64 b); refine (ZB.out _).mono ?_; rintro e w' ⟨rfl, rfl⟩) | (go_at_call_of 38 (Value.int IntKind.u64 b); refine (IB.out _).mono ?_; rintro e w' ⟨rfl, rfl⟩) | (go_at_call_of 39 (Value.int IntKind.u64 c); refine (NC.out _).mono ?_; rintro e w' ⟨rfl, rfl⟩) | (go_at_call_of 40 (Value.int IntKind.u64 c); refine (EC.out _).mono ?_; rintro e w' ⟨rfl, rfl⟩) | (go_at_call_of 41 (Value.int IntKind.u64 c); refine (ZC.out _).mono ?_; rintro e w' ⟨rfl, rfl⟩) | (go_at_call_of 38 (Value.int IntKind.u64 c); refine (IC.out _).mono ?_; rintro e w' ⟨rfl, rfl⟩) | (go_at_call 42; refine (WI.out _).mono ?_; rintro e w' ⟨rfl, rfl⟩))
        go_ret
        exact ⟨by rw [fin.out]; rfl, Below.refl _ _⟩
    have t2 : (j == 4) = false := by simpa using j4
    obtain rfl : l = 4 := by omega
    clear n
    obtain ⟨k3, tk3⟩ : ∃ z, (k == 3) = z := ⟨_, rfl⟩
    cases k3
    all_goals
      go_enter Tryd.func19, Tryd.ntmps19
      go_wp2_with (first | (go_at_call_of 39 (Value.int IntKind.u64 a); refine (NA.out _).mono ?_; rintro e w' ⟨rfl, rfl⟩) | (go_at_call_of 40 (Value.int IntKind.u64 a); refine (EA.out _).mono ?_; rintro e w' ⟨rfl, rfl⟩) | (go_at_call_of 41 (Value.int IntKind.u64 a); refine (ZA.out _).mono ?_; rintro e w' ⟨rfl, rfl⟩) | (go_at_call_of 38 (Value.int IntKind.u64 a); refine (IA.out _).mono ?_; rintro e w' ⟨rfl, rfl⟩) | (go_at_call_of 39 (Value.int IntKind.u64 b); refine (NB.out _).mono ?_; rintro e w' ⟨rfl, rfl⟩) | (go_at_call_of 40 (Value.int IntKind.u64 b); refine (EB.out _).mono ?_; rintro e w' ⟨rfl, rfl⟩) | (go_at_call_of 41 (Value.int IntKind.u64 b); refine (ZB.out _).mono ?_; rintro e w' ⟨rfl, rfl⟩) | (go_at_call_of 38 (Value.int IntKind.u64 b); refine (IB.out _).mono ?_; rintro e w' ⟨rfl, rfl⟩) | (go_at_call_of 39 (Value.int IntKind.u64 c); refine (NC.out _).mono ?_; rintro e w' ⟨rfl, rfl⟩) | (go_at_call_of 40 (Value.int IntKind.u64 c); refine (EC.out _).mono ?_; rintro e w' ⟨rfl, rfl⟩) | (go_at_call_of 41 (Value.int IntKind.u64 c); refine (ZC.out _).mono ?_; rintro e w' ⟨rfl, rfl⟩) | (go_at_call_of 38 (Value.int IntKind.u64 c); refine (IC.out _).mono ?_; rintro e w' ⟨rfl, rfl⟩) | (go_at_call 42; refine (WI.out _).mono ?_; rintro e w' ⟨rfl, rfl⟩))
      go_ret
      exact ⟨by rw [fin.out]; rfl, Below.refl _ _⟩
  have t1 : (k == 4) = false := by simp; omega
  have t2 : (j == 4) = false := by simp; omega
  have t0 : (l == 4) = false := by simp; omega
  by_cases p : k = 3 ∨ j = 3
  · by_cases z : k = 0 ∨ j = 0
    · have fin : Hid (v = 9221120237041090560) := by unfold Hid; rw [V.out]; unfold fmaK; rw [if_pos (by omega)]
      clear V bk bj bl ho
      have pz : (k = 3 ∧ j = 0) ∨ (k = 0 ∧ j = 3) := by omega
      clear p z n
      rcases pz with ⟨rfl, rfl⟩ | ⟨rfl, rfl⟩
      all_goals
        go_enter Tryd.func19, Tryd.ntmps19
        go_wp2_with (first | (go_at_call_of 39 (Value.int IntKind.u64 a); refine (NA.out _).mono ?_; rintro e w' ⟨rfl, rfl⟩) | (go_at_call_of 40 (Value.int IntKind.u64 a); refine (EA.out _).mono ?_; rintro e w' ⟨rfl, rfl⟩) | (go_at_call_of 41 (Value.int IntKind.u64 a); refine (ZA.out _).mono ?_; rintro e w' ⟨rfl, rfl⟩) | (go_at_call_of 38 (Value.int IntKind.u64 a); refine (IA.out _).mono ?_; rintro e w' ⟨rfl, rfl⟩) | (go_at_call_of 39 (Value.int IntKind.u64 b); refine (NB.out _).mono ?_; rintro e w' ⟨rfl, rfl⟩) | (go_at_call_of 40 (Value.int IntKind.u64 b); refine (EB.out _).mono ?_; rintro e w' ⟨rfl, rfl⟩) | (go_at_call_of 41 (Value.int IntKind.u64 b); refine (ZB.out _).mono ?_; rintro e w' ⟨rfl, rfl⟩) | (go_at_call_of 38 (Value.int IntKind.u64 b); refine (IB.out _).mono ?_; rintro e w' ⟨rfl, rfl⟩) | (go_at_call_of 39 (Value.int IntKind.u64 c); refine (NC.out _).mono ?_; rintro e w' ⟨rfl, rfl⟩) | (go_at_call_of 40 (Value.int IntKind.u64 c); refine (EC.out _).mono ?_; rintro e w' ⟨rfl, rfl⟩) | (go_at_call_of 41 (Value.int IntKind.u64 c); refine (ZC.out _).mono ?_; rintro e w' ⟨rfl, rfl⟩) | (go_at_call_of 38 (Value.int IntKind.u64 c); refine (IC.out _).mono ?_; rintro e w' ⟨rfl, rfl⟩) | (go_at_call 42; refine (WI.out _).mono ?_; rintro e w' ⟨rfl, rfl⟩))
        go_ret
        exact ⟨by rw [fin.out]; rfl, Below.refl _ _⟩
    have z1 : (k == 0) = false := by simp; omega
    have z2 : (j == 0) = false := by simp; omega
    by_cases l3 : l = 3
    · subst l3
      by_cases e : t = s
      · have fin : Hid (v = signI s + 9218868437227405312) := by
          unfold Hid; rw [V.out]; unfold fmaK
          rw [if_neg, if_pos p]
          rintro (g | g | g | g | ⟨_, _, g⟩)
          · omega
          · omega
          · omega
          · omega
          · exact g e
        subst e
        clear V bk bj bl ho z n
        have te : (t == t) = true := beq_self_eq_true t
        by_cases k3 : k = 3
        · subst k3
          clear p
          go_enter Tryd.func19, Tryd.ntmps19
          go_wp2_with (first | (go_at_call_of 39 (Value.int IntKind.u64 a); refine (NA.out _).mono ?_; rintro e w' ⟨rfl, rfl⟩) | (go_at_call_of 40 (Value.int IntKind.u64 a); refine (EA.out _).mono ?_; rintro e w' ⟨rfl, rfl⟩) | (go_at_call_of 41 (Value.int IntKind.u64 a); refine (ZA.out _).mono ?_; rintro e w' ⟨rfl, rfl⟩) | (go_at_call_of 38 (Value.int IntKind.u64 a); refine (IA.out _).mono ?_; rintro e w' ⟨rfl, rfl⟩) | (go_at_call_of 39 (Value.int IntKind.u64 b); refine (NB.out _).mono ?_; rintro e w' ⟨rfl, rfl⟩) | (go_at_call_of 40 (Value.int IntKind.u64 b); refine (EB.out _).mono ?_; rintro e w' ⟨rfl, rfl⟩) | (go_at_call_of 41 (Value.int IntKind.u64 b); refine (ZB.out _).mono ?_; rintro e w' ⟨rfl, rfl⟩) | (go_at_call_of 38 (Value.int IntKind.u64 b); refine (IB.out _).mono ?_; rintro e w' ⟨rfl, rfl⟩) | (go_at_call_of 39 (Value.int IntKind.u64 c); refine (NC.out _).mono ?_; rintro e w' ⟨rfl, rfl⟩) | (go_at_call_of 40 (Value.int IntKind.u64 c); refine (EC.out _).mono ?_; rintro e w' ⟨rfl, rfl⟩) | (go_at_call_of 41 (Value.int IntKind.u64 c); refine (ZC.out _).mono ?_; rintro e w' ⟨rfl, rfl⟩) | (go_at_call_of 38 (Value.int IntKind.u64 c); refine (IC.out _).mono ?_; rintro e w' ⟨rfl, rfl⟩) | (go_at_call 42; refine (WI.out _).mono ?_; rintro e w' ⟨rfl, rfl⟩))
          go_ret
          exact ⟨by rw [fin.out]; rfl, Below.refl _ _⟩
        · obtain rfl : j = 3 := by omega
          have tk3 : (k == 3) = false := by simpa using k3
          clear p
          go_enter Tryd.func19, Tryd.ntmps19
          go_wp2_with (first | (go_at_call_of 39 (Value.int IntKind.u64 a); refine (NA.out _).mono ?_; rintro e w' ⟨rfl, rfl⟩) | (go_at_call_of 40 (Value.int IntKind.u64 a); refine (EA.out _).mono ?_; rintro e w' ⟨rfl, rfl⟩) | (go_at_call_of 41 (Value.int IntKind.u64 a); refine (ZA.out _).mono ?_; rintro e w' ⟨rfl, rfl⟩) | (go_at_call_of 38 (Value.int IntKind.u64 a); refine (IA.out _).mono ?_; rintro e w' ⟨rfl, rfl⟩) | (go_at_call_of 39 (Value.int IntKind.u64 b); refine (NB.out _).mono ?_; rintro e w' ⟨rfl, rfl⟩) | (go_at_call_of 40 (Value.int IntKind.u64 b); refine (EB.out _).mono ?_; rintro e w' ⟨rfl, rfl⟩) | (go_at_call_of 41 (Value.int IntKind.u64 b); refine (ZB.out _).mono ?_; rintro e w' ⟨rfl, rfl⟩) | (go_at_call_of 38 (Value.int IntKind.u64 b); refine (IB.out _).mono ?_; rintro e w' ⟨rfl, rfl⟩) | (go_at_call_of 39 (Value.int IntKind.u64 c); refine (NC.out _).mono ?_; rintro e w' ⟨rfl, rfl⟩) | (go_at_call_of 40 (Value.int IntKind.u64 c); refine (EC.out _).mono ?_; rintro e w' ⟨rfl, rfl⟩) | (go_at_call_of 41 (Value.int IntKind.u64 c); refine (ZC.out _).mono ?_; rintro e w' ⟨rfl, rfl⟩) | (go_at_call_of 38 (Value.int IntKind.u64 c); refine (IC.out _).mono ?_; rintro e w' ⟨rfl, rfl⟩) | (go_at_call 42; refine (WI.out _).mono ?_; rintro e w' ⟨rfl, rfl⟩))
          go_ret
          exact ⟨by rw [fin.out]; rfl, Below.refl _ _⟩
      · have fin : Hid (v = 9221120237041090560) := by unfold Hid; rw [V.out]; unfold fmaK; rw [if_pos (.inr (.inr (.inr (.inr ⟨p, rfl, e⟩))))]
        have te : (t == s) = false := by simpa using e
        clear V bk bj bl ho z n
        by_cases k3 : k = 3
        · subst k3
          clear p
          go_enter Tryd.func19, Tryd.ntmps19
          go_wp2_with (first | (go_at_call_of 39 (Value.int IntKind.u64 a); refine (NA.out _).mono ?_; rintro e w' ⟨rfl, rfl⟩) | (go_at_call_of 40 (Value.int IntKind.u64 a); refine (EA.out _).mono ?_; rintro e w' ⟨rfl, rfl⟩) | (go_at_call_of 41 (Value.int IntKind.u64 a); refine (ZA.out _).mono ?_; rintro e w' ⟨rfl, rfl⟩) | (go_at_call_of 38 (Value.int IntKind.u64 a); refine (IA.out _).mono ?_; rintro e w' ⟨rfl, rfl⟩) | (go_at_call_of 39 (Value.int IntKind.u64 b); refine (NB.out _).mono ?_; rintro e w' ⟨rfl, rfl⟩) | (go_at_call_of 40 (Value.int IntKind.u64 b); refine (EB.out _).mono ?_; rintro e w' ⟨rfl, rfl⟩) | (go_at_call_of 41 (Value.int IntKind.u64 b); refine (ZB.out _).mono ?_; rintro e w' ⟨rfl, rfl⟩) | (go_at_call_of 38 (Value.int IntKind.u64 b); refine (IB.out _).mono ?_; rintro e w' ⟨rfl, rfl⟩) | (go_at_call_of 39 (Value.int IntKind.u64 c); refine (NC.out _).mono ?_; rintro e w' ⟨rfl, rfl⟩) | (go_at_call_of 40 (Value.int IntKind.u64 c); refine (EC.out _).mono ?_; rintro e w' ⟨rfl, rfl⟩) | (go_at_call_of 41 (Value.int IntKind.u64 c); refine (ZC.out _).mono ?_; rintro e w' ⟨rfl, rfl⟩) | (go_at_call_of 38 (Value.int IntKind.u64 c); refine (IC.out _).mono ?_; rintro e w' ⟨rfl, rfl⟩) | (go_at_call 42; refine (WI.out _).mono ?_; rintro e w' ⟨rfl, rfl⟩))
          go_ret
          exact ⟨by rw [fin.out]; rfl, Below.refl _ _⟩
        · obtain rfl : j = 3 := by omega
          have tk3 : (k == 3) = false := by simpa using k3
          clear p
          go_enter Tryd.func19, Tryd.ntmps19
          go_wp2_with (first | (go_at_call_of 39 (Value.int IntKind.u64 a); refine (NA.out _).mono ?_; rintro e w' ⟨rfl, rfl⟩) | (go_at_call_of 40 (Value.int IntKind.u64 a); refine (EA.out _).mono ?_; rintro e w' ⟨rfl, rfl⟩) | (go_at_call_of 41 (Value.int IntKind.u64 a); refine (ZA.out _).mono ?_; rintro e w' ⟨rfl, rfl⟩) | (go_at_call_of 38 (Value.int IntKind.u64 a); refine (IA.out _).mono ?_; rintro e w' ⟨rfl, rfl⟩) | (go_at_call_of 39 (Value.int IntKind.u64 b); refine (NB.out _).mono ?_; rintro e w' ⟨rfl, rfl⟩) | (go_at_call_of 40 (Value.int IntKind.u64 b); refine (EB.out _).mono ?_; rintro e w' ⟨rfl, rfl⟩) | (go_at_call_of 41 (Value.int IntKind.u64 b); refine (ZB.out _).mono ?_; rintro e w' ⟨rfl, rfl⟩) | (go_at_call_of 38 (Value.int IntKind.u64 b); refine (IB.out _).mono ?_; rintro e w' ⟨rfl, rfl⟩) | (go_at_call_of 39 (Value.int IntKind.u64 c); refine (NC.out _).mono ?_; rintro e w' ⟨rfl, rfl⟩) | (go_at_call_of 40 (Value.int IntKind.u64 c); refine (EC.out _).mono ?_; rintro e w' ⟨rfl, rfl⟩) | (go_at_call_of 41 (Value.int IntKind.u64 c); refine (ZC.out _).mono ?_; rintro e w' ⟨rfl, rfl⟩) | (go_at_call_of 38 (Value.int IntKind.u64 c); refine (IC.out _).mono ?_; rintro e w' ⟨rfl, rfl⟩) | (go_at_call 42; refine (WI.out _).mono ?_; rintro e w' ⟨rfl, rfl⟩))
          go_ret
          exact ⟨by rw [fin.out]; rfl, Below.refl _ _⟩
    · have fin : Hid (v = signI s + 9218868437227405312) := by unfold Hid; rw [V.out]; unfold fmaK; rw [if_neg (by omega), if_pos p]
      have tl3 : (l == 3) = false := by simpa using l3
      clear V bk bj bl ho z n
      by_cases k3 : k = 3
      · subst k3
        clear p
        go_enter Tryd.func19, Tryd.ntmps19
        go_wp2_with (first | (go_at_call_of 39 (Value.int IntKind.u64 a); refine (NA.out _).mono ?_; rintro e w' ⟨rfl, rfl⟩) | (go_at_call_of 40 (Value.int IntKind.u64 a); refine (EA.out _).mono ?_; rintro e w' ⟨rfl, rfl⟩) | (go_at_call_of 41 (Value.int IntKind.u64 a); refine (ZA.out _).mono ?_; rintro e w' ⟨rfl, rfl⟩) | (go_at_call_of 38 (Value.int IntKind.u64 a); refine (IA.out _).mono ?_; rintro e w' ⟨rfl, rfl⟩) | (go_at_call_of 39 (Value.int IntKind.u64 b); refine (NB.out _).mono ?_; rintro e w' ⟨rfl, rfl⟩) | (go_at_call_of 40 (Value.int IntKind.u64 b); refine (EB.out _).mono ?_; rintro e w' ⟨rfl, rfl⟩) | (go_at_call_of 41 (Value.int IntKind.u64 b); refine (ZB.out _).mono ?_; rintro e w' ⟨rfl, rfl⟩) | (go_at_call_of 38 (Value.int IntKind.u64 b); refine (IB.out _).mono ?_; rintro e w' ⟨rfl, rfl⟩) | (go_at_call_of 39 (Value.int IntKind.u64 c); refine (NC.out _).mono ?_; rintro e w' ⟨rfl, rfl⟩) | (go_at_call_of 40 (Value.int IntKind.u64 c); refine (EC.out _).mono ?_; rintro e w' ⟨rfl, rfl⟩) | (go_at_call_of 41 (Value.int IntKind.u64 c); refine (ZC.out _).mono ?_; rintro e w' ⟨rfl, rfl⟩) | (go_at_call_of 38 (Value.int IntKind.u64 c); refine (IC.out _).mono ?_; rintro e w' ⟨rfl, rfl⟩) | (go_at_call 42; refine (WI.out _).mono ?_; rintro e w' ⟨rfl, rfl⟩))
        go_ret
        exact ⟨by rw [fin.out]; rfl, Below.refl _ _⟩
      · obtain rfl : j = 3 := by omega
        have tk3 : (k == 3) = false := by simpa using k3
        clear p
        go_enter Tryd.func19, Tryd.ntmps19
        go_wp2_with (first | (go_at_call_of 39 (Value.int IntKind.u64 a); refine (NA.out _).mono ?_; rintro e w' ⟨rfl, rfl⟩) | (go_at_call_of 40 (Value.int IntKind.u64 a); refine (EA.out _).mono ?_; rintro e w' ⟨rfl, rfl⟩) | (go_at_call_of 41 (Value.int IntKind.u64 a); refine (ZA.out _).mono ?_; rintro e w' ⟨rfl, rfl⟩) | (go_at_call_of 38 (Value.int IntKind.u64 a); refine (IA.out _).mono ?_; rintro e w' ⟨rfl, rfl⟩) | (go_at_call_of 39 (Value.int IntKind.u64 b); refine (NB.out _).mono ?_; rintro e w' ⟨rfl, rfl⟩) | (go_at_call_of 40 (Value.int IntKind.u64 b); refine (EB.out _).mono ?_; rintro e w' ⟨rfl, rfl⟩) | (go_at_call_of 41 (Value.int IntKind.u64 b); refine (ZB.out _).mono ?_; rintro e w' ⟨rfl, rfl⟩) | (go_at_call_of 38 (Value.int IntKind.u64 b); refine (IB.out _).mono ?_; rintro e w' ⟨rfl, rfl⟩) | (go_at_call_of 39 (Value.int IntKind.u64 c); refine (NC.out _).mono ?_; rintro e w' ⟨rfl, rfl⟩) | (go_at_call_of 40 (Value.int IntKind.u64 c); refine (EC.out _).mono ?_; rintro e w' ⟨rfl, rfl⟩) | (go_at_call_of 41 (Value.int IntKind.u64 c); refine (ZC.out _).mono ?_; rintro e w' ⟨rfl, rfl⟩) | (go_at_call_of 38 (Value.int IntKind.u64 c); refine (IC.out _).mono ?_; rintro e w' ⟨rfl, rfl⟩) | (go_at_call 42; refine (WI.out _).mono ?_; rintro e w' ⟨rfl, rfl⟩))
        go_ret
        exact ⟨by rw [fin.out]; rfl, Below.refl _ _⟩
  · obtain rfl : l = 3 := by omega
    have fin : Hid (v = c) := by unfold Hid; rw [V.out]; unfold fmaK; rw [if_neg (by omega), if_neg (by omega), if_pos rfl]
    have tk3 : (k == 3) = false := by simp; omega
    have tj3 : (j == 3) = false := by simp; omega
    clear V bk bj bl ho n p
    go_enter Tryd.func19, Tryd.ntmps19
    go_wp2_with (first | (go_at_call_of 39 (Value.int IntKind.u64 a); refine (NA.out _).mono ?_; rintro e w' ⟨rfl, rfl⟩) | (go_at_call_of 40 (Value.int IntKind.u64 a); refine (EA.out _).mono ?_; rintro e w' ⟨rfl, rfl⟩) | (go_at_call_of 41 (Value.int IntKind.u64 a); refine (ZA.out _).mono ?_; rintro e w' ⟨rfl, rfl⟩) | (go_at_call_of 38 (Value.int IntKind.u64 a); refine (IA.out _).mono ?_; rintro e w' ⟨rfl, rfl⟩) | (go_at_call_of 39 (Value.int IntKind.u64 b); refine (NB.out _).mono ?_; rintro e w' ⟨rfl, rfl⟩) | (go_at_call_of 40 (Value.int IntKind.u64 b); refine (EB.out _).mono ?_; rintro e w' ⟨rfl, rfl⟩) | (go_at_call_of 41 (Value.int IntKind.u64 b); refine (ZB.out _).mono ?_; rintro e w' ⟨rfl, rfl⟩) | (go_at_call_of 38 (Value.int IntKind.u64 b); refine (IB.out _).mono ?_; rintro e w' ⟨rfl, rfl⟩) | (go_at_call_of 39 (Value.int IntKind.u64 c); refine (NC.out _).mono ?_; rintro e w' ⟨rfl, rfl⟩) | (go_at_call_of 40 (Value.int IntKind.u64 c); refine (EC.out _).mono ?_; rintro e w' ⟨rfl, rfl⟩) | (go_at_call_of 41 (Value.int IntKind.u64 c); refine (ZC.out _).mono ?_; rintro e w' ⟨rfl, rfl⟩) | (go_at_call_of 38 (Value.int IntKind.u64 c); refine (IC.out _).mono ?_; rintro e w' ⟨rfl, rfl⟩) | (go_at_call 42; refine (WI.out _).mono ?_; rintro e w' ⟨rfl, rfl⟩))
    go_ret
    exact ⟨by rw [fin.out]; rfl, Below.refl _ _⟩
end Go.Proofs.YtnefacnceemklaaDoor

/-
  The document's fused product and sum, of finite numbers: walked.
-/
namespace Go.Proofs.YtnefacnceemklaaDoor
open Go.RowKit Go.Shelf

theorem up_bits {v k n : Int} {m : Nat} (_h0 : 0 ≤ v) (h1 : v < pw n) (n0 : 0 ≤ n) (hk : 0 ≤ k) (hm : n + k ≤ 32 * (m : Int)) : v * pw k < pw (32 * (m : Int)) := by
  have p := pw_pos k
  have a := Int.mul_lt_mul_of_pos_right h1 p
  rw [← pw_add _ _ n0 hk] at a
  have b := pw_mono (a := n + k) (b := 32 * (m : Int)) (by omega) hm
  omega
set_option maxRecDepth 100000 in
set_option maxHeartbeats 8000000 in
theorem rfma_fin (a b c : Int) (h1 : Word a) (h2 : Word b) (h3 : Word c) (ka : kindI a < 3) (kb : kindI b < 3) (kc : kindI c < 3) (w : World) : Calls Tryd.prog 19 #[.int .u64 a, .int .u64 b, .int .u64 c] w (WordPost (fmaV a b c) w) := by
  obtain ⟨k, hk⟩ : ∃ z, kindI a = z := ⟨_, rfl⟩
  obtain ⟨j, hj⟩ : ∃ z, kindI b = z := ⟨_, rfl⟩
  obtain ⟨l, hl⟩ : ∃ z, kindI c = z := ⟨_, rfl⟩
  have NA := Lib.hid (fun W => none5 a k h1 hk W)
  have NB := Lib.hid (fun W => none5 b j h2 hj W)
  have NC := Lib.hid (fun W => none5 c l h3 hl W)
  have EA := Lib.hid (fun W => endless5 a k h1 hk W)
  have EB := Lib.hid (fun W => endless5 b j h2 hj W)
  have EC := Lib.hid (fun W => endless5 c l h3 hl W)
  have ZA := Lib.hid (fun W => zero5 a k h1 hk W)
  have ZB := Lib.hid (fun W => zero5 b j h2 hj W)
  have ZC := Lib.hid (fun W => zero5 c l h3 hl W)
  have IA := Lib.hid (fun W => ris_any a W)
  have IB := Lib.hid (fun W => ris_any b W)
  have IC := Lib.hid (fun W => ris_any c W)
  have SA := Lib.hid (fun W => rsplit_any a h1 W)
  have SB := Lib.hid (fun W => rsplit_any b h2 W)
  have EX := Lib.hid (fun W => exact_any c h3 W)
  obtain ⟨a0, a1, p0, p1⟩ := mant_bd a h1
  obtain ⟨b0, b1, q0, q1⟩ := mant_bd b h2
  have FS := Lib.hid (fun g v (H : IsSum (sgn (negB a != negB b) (XI a * XI b) + sgn (negB c) (XI c * pw 1074)) g v) => fma_sum h1 h2 h3 ka kb kc H)
  rw [hk, hj, hl] at FS
  have xa := XI_nonneg a h1
  have xb := XI_nonneg b h2
  have xc := XI_nonneg c h3
  have XC := Lib.hid (XI_lt2 c h3)
  have EP : Hid (mantI a * mantI b * pw (powI a + powI b + 2148) = XI a * XI b) := by
    unfold Hid XI
    rw [show powI a + powI b + 2148 = (powI a + 1074) + (powI b + 1074) by omega, pw_add _ _ (by omega) (by omega)]
    generalize pw (powI a + 1074) = A
    generalize pw (powI b + 1074) = B
    rw [Int.mul_assoc, Int.mul_left_comm (mantI b) A B, ← Int.mul_assoc]
  have X0 : Hid (0 ≤ XI a * XI b) := Int.mul_nonneg xa xb
  have Y0 : Hid (0 ≤ XI c * pw 1074) := Int.mul_nonneg xc (Int.le_of_lt (pw_pos _))
  have P1 : Hid (mantI a * mantI b < pw 110) := by
    have P := Int.mul_le_mul (show mantI a ≤ 9007199254740991 by omega) (show mantI b ≤ 9007199254740991 by omega) b0 (by decide)
    unfold Hid; rw [show pw 110 = 1298074214633706907132624082305024 from rfl]; omega
  have P0 : Hid (0 ≤ mantI a * mantI b) := Int.mul_nonneg a0 b0
  obtain ⟨na, hna⟩ : ∃ z, negB a = z := ⟨_, rfl⟩
  obtain ⟨nb, hnb⟩ : ∃ z, negB b = z := ⟨_, rfl⟩
  rw [hna] at IA SA; rw [hnb] at IB SB
  rw [hna, hnb] at FS
  obtain ⟨s, hs⟩ : ∃ z, (na != nb) = z := ⟨_, rfl⟩
  rw [hs] at FS
  have hs2 : (!(na == nb)) = s := by rw [← hs]; rfl
  obtain ⟨ma, hma⟩ : ∃ z, mantI a = z := ⟨_, rfl⟩
  obtain ⟨mb, hmb⟩ : ∃ z, mantI b = z := ⟨_, rfl⟩
  rw [hma] at SA EP P0 P1 a0 a1; rw [hmb] at SB EP P0 P1 b0 b1
  generalize powI a = pa at *
  generalize powI b = pb at *
  have NM := Lib.hid (fun W => nat3_any ma ⟨a0, by omega⟩ W)
  have NN := Lib.hid (fun W => nat3_any mb ⟨b0, by omega⟩ W)
  generalize negB c = t at *
  generalize fmaV a b c = v at *
  have XAB : Hid (XI a * XI b < pw (32 * ((140 : Nat) : Int))) := by
    unfold Hid; rw [← EP.out]
    exact up_bits P0.out P1.out (by decide) (by omega) (by omega)
  have XC2 : Hid (XI c * pw 1074 < pw (32 * ((100 : Nat) : Int))) := up_bits xc XC.out (by decide) (by decide) (by decide)
  have XC3 : Hid (XI c < pw (32 * ((66 : Nat) : Int))) := by
    unfold Hid; have := pw_mono (a := 2098) (b := 32 * ((66 : Nat) : Int)) (by decide) (by decide); have := XC.out; omega
  generalize XI a * XI b = XP at *
  generalize XI c = Xc at *
  obtain ⟨Y, hY⟩ : ∃ Y, Xc * pw 1074 = Y := ⟨_, rfl⟩
  have HY := Lib.hid hY
  rw [hY] at FS Y0 XC2
  have XS : Hid (XP + Y < pw (32 * ((141 : Nat) : Int))) := by
    have := XAB.out; have := XC2.out
    have := pw_mono (a := 32 * ((100 : Nat) : Int)) (b := 32 * ((140 : Nat) : Int)) (by decide) (by decide)
    have : pw (32 * ((141 : Nat) : Int)) = 4294967296 * pw (32 * ((140 : Nat) : Int)) := pw32 140
    have := pw_pos (32 * ((140 : Nat) : Int))
    unfold Hid; omega
  have t1 : (k == 4) = false := by simp; omega
  have t2 : (j == 4) = false := by simp; omega
  have t3 : (l == 4) = false := by simp; omega
  have t4 : (k == 3) = false := by simp; omega
  have t5 : (j == 3) = false := by simp; omega
  have t6 : (l == 3) = false := by simp; omega
  clear h1 h2 h3 hk hj hl hs hY hma hmb hna hnb xa xb xc XC
  go_enter Tryd.func19, Tryd.ntmps19
  go_wp2_with fail
  refine (IA.out _).mono ?_
  rintro e w' ⟨rfl, rfl⟩
  go_wp2_with fail
  refine (IB.out _).mono ?_
  rintro e w' ⟨rfl, rfl⟩
  go_wp2_with fail
  refine (EA.out _).mono ?_
  rintro e w' ⟨rfl, rfl⟩
  go_wp2_with fail
  refine (EB.out _).mono ?_
  rintro e w' ⟨rfl, rfl⟩
  go_wp2_with fail
  refine (NA.out _).mono ?_
  rintro e w' ⟨rfl, rfl⟩
  go_wp2_with fail
  refine (NB.out _).mono ?_
  rintro e w' ⟨rfl, rfl⟩
  go_wp2_with fail
  refine (NC.out _).mono ?_
  rintro e w' ⟨rfl, rfl⟩
  go_wp2_with fail
  refine (EC.out _).mono ?_
  rintro e w' ⟨rfl, rfl⟩
  go_wp2_with fail
  refine (SA.out _).mono ?_
  rintro e w' ⟨rfl, rfl⟩
  go_wp2_with fail
  refine (SB.out _).mono ?_
  rintro e w' ⟨rfl, rfl⟩
  clear NA NB NC EA EB EC IA IB SA SB
  go_wp2_with fail
  refine (NM.out _).mono ?_
  rintro e w1 ⟨A1, n1, c1, l1, rfl, hs1, hn1, hv1, _, hb1⟩
  have n1b : n1 ≤ 8 := hs1.small hn1 (by rw [hv1]; omega)
  clear hn1 NM
  go_wp2_with fail
  refine (NN.out _).mono ?_
  rintro e w2 ⟨A2, n2, c2, l2, rfl, hs2, hn2, hv2, _, hb2⟩
  have n2b : n2 ≤ 8 := hs2.small hn2 (by rw [hv2]; omega)
  have CT := Lib.hid (rtimes_any A1 A2 n1 n2 c1 c2 l1 l2 w2 (hs1.on hb2) hs2 (by omega) (by omega))
  rw [hv1, hv2] at CT
  have hB2 := hb1.trans (hb2.mono hb1.size)
  clear hn2 NN hs1 hs2 hv1 hv2 hb1 hb2
  go_wp2_with fail
  refine CT.out.mono ?_
  rintro e w3 ⟨A3, n3, c3, l3, rfl, hs3, hn3, hv3, _, hb3⟩
  have n3b : n3 ≤ 4 := by
    rw [← hs3.len]
    exact norm_len hs3.lim hn3 (k := 4) (by rw [hv3]; have := P1.out; have := pw_mono (a := 110) (b := 32 * ((4 : Nat) : Int)) (by decide) (by decide); omega)
  have CU := Lib.hid (rup_any A3 n3 c3 l3 (pa + pb + 2148) w3 hs3 (by omega) (by omega) (by omega))
  rw [hv3, EP.out] at CU
  have hB3 := hB2.trans (hb3.mono hB2.size)
  clear CT hs3 hn3 hv3 hb3 hB2
  go_wp2_with fail
  refine CU.out.mono ?_
  rintro e w4 ⟨A4, n4, c4, l4, rfl, hs4, hn4, hv4, _, hb4⟩
  have n4b : n4 ≤ 140 := by
    rw [← hs4.len]
    exact norm_len hs4.lim hn4 (k := 140) (by rw [hv4]; exact XAB.out)
  have hB4 := hB3.trans (hb4.mono hB3.size)
  have hs4 := Lib.hid hs4
  have hv4 := Lib.hid hv4
  clear CU hn4 hb4 hB3
  go_wp2_with fail
  have hBp : Below w4.heap.size w4 (w4.alloc (.cells #[.bool s, .slice A4 n4 c4] 61)) := below_new _ _
  refine (EX.out _).mono ?_
  rintro e w5 ⟨t', A5, n5, c5, l5, rfl, hs5, hn5, ⟨rfl, hv5⟩, hb5⟩
  have n5b : n5 ≤ 66 := by
    rw [← hs5.len]
    exact norm_len hs5.lim hn5 (k := 66) (by rw [hv5]; exact XC3.out)
  have zb : w4.heap.size < w5.heap.size := by have := hb5.size; simp at this; omega
  have pa0 : w5.cell? ⟨w4.heap.size, 0, none⟩ = some (.bool s) := by rw [(bcell hb5).1 _ _ (by simp)]; simp [go_sem]
  have pa1 : w5.cell? ⟨w4.heap.size, 1, none⟩ = some (.slice A4 n4 c4) := by rw [(bcell hb5).1 _ _ (by simp)]; simp [go_sem]
  have hb45 : Below w4.heap.size w4 w5 := hBp.trans (hb5.mono (by simp))
  have hB5 := hB4.trans (hb45.mono hB4.size)
  have hs5 := Lib.hid hs5
  clear hn5 EX hBp hb5 hB4
  go_wp2_with fail
  have hBx : Below w5.heap.size w5 (w5.alloc (.cells #[.bool t', .slice A5 n5 c5] 61)) := below_new _ _
  have CU := Lib.hid (rup_any A5 n5 c5 l5 1074 _ (hs5.out.on hBx) (by omega) (by decide) (by decide))
  rw [hv5, HY.out] at CU
  refine CU.out.mono ?_
  rintro e w6 ⟨A6, n6, c6, l6, rfl, hs6, hn6, hv6, fr6, hb6⟩
  have fr6 : Fresh (w5.heap.size + 1) A6 := fr6.mono (by simp)
  have n6b : n6 ≤ 100 := by
    rw [← hs6.len]
    exact norm_len hs6.lim hn6 (k := 100) (by rw [hv6]; exact XC2.out)
  have hb56 : Below w5.heap.size w5 w6 := hBx.trans (hb6.mono (by simp))
  have zx : w5.heap.size < w6.heap.size := by have := hb6.size; simp at this; omega
  have zp : w4.heap.size < w6.heap.size := by omega
  have xf : w6.frozen? ⟨w5.heap.size, 1, none⟩ = false := by rw [(bcell hb6).2 _ _ (by simp)]; simp [go_sem]
  have xa0 : w6.cell? ⟨w5.heap.size, 0, none⟩ = some (.bool t') := by rw [(bcell hb6).1 _ _ (by simp)]; simp [go_sem]
  have xa1 : w6.cell? ⟨w5.heap.size, 1, none⟩ = some (.slice A5 n5 c5) := by rw [(bcell hb6).1 _ _ (by simp)]; simp [go_sem]
  have pb0 : w6.cell? ⟨w4.heap.size, 0, none⟩ = some (.bool s) := by rw [(bcell hb56).1 _ _ zb]; exact pa0
  have pb1 : w6.cell? ⟨w4.heap.size, 1, none⟩ = some (.slice A4 n4 c4) := by rw [(bcell hb56).1 _ _ zb]; exact pa1
  have hB6 := hB5.trans (hb56.mono hB5.size)
  have hb46 := hb45.trans (hb56.mono hb45.size)
  have z45 : w4.heap.size ≤ w5.heap.size := by omega
  have z5 : w.heap.size ≤ w5.heap.size := hB5.size
  have H4 : Sl (w6.setCell ⟨w5.heap.size, 1, none⟩ (.slice A6 n6 c6)) (w6.setCell ⟨w5.heap.size, 1, none⟩ (.slice A6 n6 c6)).heap.size A4 n4 c4 l4 := hs4.out.on (hb46.setCell z45 _)
  have H6 : Sl (w6.setCell ⟨w5.heap.size, 1, none⟩ (.slice A6 n6 c6)) (w6.setCell ⟨w5.heap.size, 1, none⟩ (.slice A6 n6 c6)).heap.size A6 n6 c6 l6 := (hs6.far fr6).more (by simp [World.setCell])
  have PL := Lib.hid (plus_sgn s t' XP Y X0.out Y0.out A4 A6 n4 n6 c4 c6 l4 l6 _ H4 H6 (by omega) (by omega) (by rw [hv4.out]) (by rw [hv6]))
  have hB7 := Lib.hid (show Below w.heap.size w (w6.setCell ⟨w5.heap.size, 1, none⟩ (.slice A6 n6 c6)) from hB6.setCell z5 _)
  clear hn6 CU hBx hb6 hb56 hb45 hb46 pa0 pa1 hB5 H4 H6 hs6 hv6 fr6 hs4 hv4
  go_wp2_with fail
  refine PL.out.mono ?_
  rintro e w7 ⟨g, A7, n7, c7, l7, rfl, hs7, hn7, hg, hb7⟩
  have n7b : n7 ≤ 141 := by
    rw [← hs7.len]
    refine norm_len hs7.lim hn7 (k := 141) ?_
    have := hg.e; have := hg.v0; have := X0.out; have := Y0.out; have := XS.out
    unfold sgn at *
    cases g <;> cases s <;> cases t' <;> simp at * <;> omega
  have hB8 := hB7.out.trans (hb7.mono hB7.out.size)
  obtain ⟨F1, F2⟩ := FS.out g _ hg
  have F1 := Lib.hid F1
  have F2 := Lib.hid F2
  obtain ⟨V, hV⟩ : ∃ V, natV l7 = V := ⟨_, rfl⟩
  rw [hV] at F1 F2
  have lp := len_pos hs7 hn7 hV
  have hs7 := Lib.hid hs7
  clear hn7 hg hb7 hB6 hB7 PL X0 Y0 XS FS xa0 xa1 pb0 pb1 xf hs5 hv5
  by_cases v0 : V = 0
  · have F2 := Lib.hid (F2.out v0)
    have nz : n7 = 0 := by have : ¬ (0 < n7) := fun c => by rw [v0] at lp; simp at lp; omega
                           omega
    subst nz
    clear F1 lp v0
    obtain ⟨k0, tk0⟩ : ∃ z, (k == 0) = z := ⟨_, rfl⟩
    obtain ⟨j0, tj0⟩ : ∃ z, (j == 0) = z := ⟨_, rfl⟩
    obtain ⟨l0, tl0⟩ : ∃ z, (l == 0) = z := ⟨_, rfl⟩
    have F3 : Hid (v = if ((k0 || j0) && l0 && s && t') = true then 9223372036854775808 else 0) := by
      have e := F2.out
      unfold Hid
      rw [e]
      subst tk0 tj0 tl0
      by_cases c1 : k = 0 <;> by_cases c2 : j = 0 <;> by_cases c3 : l = 0 <;> cases s <;> cases t' <;> simp [c1, c2, c3]
    rw [tk0] at ZA; rw [tj0] at ZB; rw [tl0] at ZC
    clear tk0 tj0 tl0 F2
    cases k0 <;> cases j0 <;> cases l0 <;> cases s <;> cases t'
    all_goals
      go_wp2_with (first | (go_at_call_of 41 (Value.int IntKind.u64 a); refine (ZA.out _).mono ?_; rintro e w' ⟨rfl, rfl⟩) | (go_at_call_of 41 (Value.int IntKind.u64 b); refine (ZB.out _).mono ?_; rintro e w' ⟨rfl, rfl⟩) | (go_at_call_of 41 (Value.int IntKind.u64 c); refine (ZC.out _).mono ?_; rintro e w' ⟨rfl, rfl⟩) | (go_at_call 38; refine (IC.out _).mono ?_; rintro e w' ⟨rfl, rfl⟩))
      go_ret
      exact ⟨by rw [F3.out]; rfl, hB8.alloc hB8.size _⟩
  · have F1 := Lib.hid (F1.out v0)
    have nz : 0 < n7 := by have e : decide (0 < n7) = true := (by rw [lp]; simpa using v0)
                           simpa using e
    have nz1 : ¬ n7 = 0 := by omega
    have nz2 : ¬ (n7 : Int) = 0 := by omega
    have RR := Lib.hid (rround_len g A7 n7 c7 l7 (-2148) (w7.alloc (.cells #[.bool g, .slice A7 n7 c7] 61)) (hs7.out.on (below_new _ _)) (by omega) (by decide) (by decide) hV F1.out.symm)
    clear F1 F2 lp v0
    go_wp2_with fail
    refine RR.out.mono ?_
    rintro e w8 ⟨rfl, hb8⟩
    have hB9 : Below w.heap.size w w8 := (hB8.alloc hB8.size _).trans (hb8.mono (by have := hB8.size; simp; omega))
    go_wp2_with fail
    go_ret
    exact ⟨rfl, hB9⟩
end Go.Proofs.YtnefacnceemklaaDoor

