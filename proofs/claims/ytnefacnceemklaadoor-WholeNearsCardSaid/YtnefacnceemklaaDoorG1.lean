/-
  whole's and the document's rank, Cmp, Sign, Min, Max: walked.
-/
import Derived.Test.YtnefacnceemklaaDoorG0
namespace Go.Proofs.YtnefacnceemklaaDoor
open Go.RowKit Go.Shelf

theorem cmpB_false {a b : Int} : cmpB a b = false ↔ kindI a = 4 ∨ kindI b = 4 := by
  unfold cmpB
  by_cases c : kindI a = 4 <;> by_cases d : kindI b = 4 <;> simp [c, d]
theorem cmpB_true {a b : Int} : cmpB a b = true ↔ ¬(kindI a = 4 ∨ kindI b = 4) := by
  rw [← cmpB_false]; simp
theorem min_nan {a b : Int} (h : cmpB a b = false) : minI a b = 9221120237041090560 ∧ maxI a b = 9221120237041090560 ∧ cmpN a b = 0 := by
  have c := cmpB_false.1 h
  unfold minI maxI cmpN
  rw [if_pos c, if_pos c, if_pos c]; exact ⟨rfl, rfl, rfl⟩
theorem min_code {a b : Int} (h1 : Word a) (h2 : Word b) (h : cmpB a b = true) :
    (cmpN a b = 0 → minI a b = bits .or .u64 a b ∧ maxI a b = bits .and .u64 a b ∧ minI a b = (if negB a = true then a else b) ∧ maxI a b = (if negB a = true then b else a)) ∧
    (cmpN a b < 0 → minI a b = a ∧ maxI a b = b) ∧ (0 < cmpN a b → minI a b = b ∧ maxI a b = a) := by
  have c := cmpB_true.1 h
  unfold minI maxI cmpN
  rw [if_neg c, if_neg c, if_neg c]
  refine ⟨fun e => ?_, fun e => ?_, fun e => ?_⟩
  · have e := ord_eq.1 e
    rw [or_same h1 h2 e, and_same h1 h2 e]
    cases negB a <;> simp [e]
  · have e := ord_lt.1 e
    rw [if_pos (.inl e), if_neg (by omega)]; exact ⟨rfl, rfl⟩
  · have e := ord_gt.1 e
    rw [if_neg (by omega), if_pos (.inl e)]; exact ⟨rfl, rfl⟩

set_option maxHeartbeats 400000 in
theorem wrank_any (x : Int) (h : Word x) (w : World) : Calls Tryd.prog 70 #[.int .u64 x] w fun e w' => e = .returned (.int .i64 (rankW x)) ∧ w = w' := by
  have hr := u64_andNot_top x h
  have ht := u64_bits_and_top x h
  have x0 := h.1; have x1 := h.2
  by_cases c : 9223372036854775808 ≤ x
  · have e : Hid (-absI x = rankW x) := by unfold Hid rankW negB absI; simp [c]; omega
    have b0 : 0 ≤ absI x ∧ absI x < 9223372036854775808 := by unfold absI; omega
    obtain ⟨b0, b1⟩ := b0
    rw [if_pos c] at ht
    generalize absI x = r at *
    generalize rankW x = k at *
    clear c h
    go_enter Tryd.func70, Tryd.ntmps70
    go_wp2
    go_ret
    exact ⟨congrArg (fun z => Ending.returned (.int .i64 z)) e.out, rfl⟩
  · have e : Hid (absI x = rankW x) := by unfold Hid rankW negB absI; simp [c]; omega
    have b0 : 0 ≤ absI x ∧ absI x < 9223372036854775808 := by unfold absI; omega
    obtain ⟨b0, b1⟩ := b0
    rw [if_neg c] at ht
    generalize absI x = r at *
    generalize rankW x = k at *
    clear c h
    go_enter Tryd.func70, Tryd.ntmps70
    go_wp2
    go_ret
    exact ⟨congrArg (fun z => Ending.returned (.int .i64 z)) e.out, rfl⟩
set_option maxRecDepth 100000 in
set_option maxHeartbeats 1000000 in
theorem wcmp_any (a b : Int) (h1 : Word a) (h2 : Word b) (w : World) : Calls Tryd.prog 32 #[.int .u64 a, .int .u64 b] w fun e w' => e = .returned (.tuple #[.int .i64 (cmpN a b), .bool (cmpB a b)]) ∧ w = w' := by
  obtain ⟨k, hk⟩ : ∃ z, kindI a = z := ⟨_, rfl⟩
  obtain ⟨j, hj⟩ : ∃ z, kindI b = z := ⟨_, rfl⟩
  obtain ⟨p, hp⟩ : ∃ z, rankW a = z := ⟨_, rfl⟩
  obtain ⟨q, hq⟩ : ∃ z, rankW b = z := ⟨_, rfl⟩
  have KA := Lib.hid (fun W => kind_vars a k h1 hk W)
  have KB := Lib.hid (fun W => kind_vars b j h2 hj W)
  have RA := Lib.hid (fun W => wrank_any a h1 W)
  have RB := Lib.hid (fun W => wrank_any b h2 W)
  rw [hp] at RA; rw [hq] at RB
  have CN : Hid (cmpN a b = if k = 4 ∨ j = 4 then 0 else ordI p q) := by unfold Hid cmpN; rw [hk, hj, hp, hq]
  have CB : Hid (cmpB a b = (!(k == 4) && !(j == 4))) := by unfold Hid cmpB; rw [hk, hj]
  generalize cmpN a b = n at *
  generalize cmpB a b = o at *
  clear hk hj hp hq h1 h2
  by_cases k4 : k = 4
  · have t1 : (k == 4) = true := by simpa using k4
    have f1 : Hid (n = 0) := by unfold Hid; rw [CN.out, if_pos (.inl k4)]
    have f2 : Hid (o = false) := by unfold Hid; rw [CB.out, t1]; rfl
    clear CN CB k4
    go_enter Tryd.func32, Tryd.ntmps32
    go_wp2_with (first | (go_at_call_of 34 (Value.int IntKind.u64 a); refine (KA.out _).mono ?_; rintro e w' ⟨rfl, rfl⟩) | (go_at_call_of 34 (Value.int IntKind.u64 b); refine (KB.out _).mono ?_; rintro e w' ⟨rfl, rfl⟩))
    go_ret2
    exact ⟨by rw [f1.out, f2.out]; rfl, rfl⟩
  have t1 : (k == 4) = false := by simpa using k4
  by_cases j4 : j = 4
  · have t2 : (j == 4) = true := by simpa using j4
    have f1 : Hid (n = 0) := by unfold Hid; rw [CN.out, if_pos (.inr j4)]
    have f2 : Hid (o = false) := by unfold Hid; rw [CB.out, t1, t2]; rfl
    clear CN CB k4 j4
    go_enter Tryd.func32, Tryd.ntmps32
    go_wp2_with (first | (go_at_call_of 34 (Value.int IntKind.u64 a); refine (KA.out _).mono ?_; rintro e w' ⟨rfl, rfl⟩) | (go_at_call_of 34 (Value.int IntKind.u64 b); refine (KB.out _).mono ?_; rintro e w' ⟨rfl, rfl⟩))
    go_ret2
    exact ⟨by rw [f1.out, f2.out]; rfl, rfl⟩
  have t2 : (j == 4) = false := by simpa using j4
  have f2 : Hid (o = true) := by unfold Hid; rw [CB.out, t1, t2]; rfl
  have f1 : Hid (n = ordI p q) := by unfold Hid; rw [CN.out, if_neg (by omega)]
  clear CN CB k4 j4
  rcases Int.lt_trichotomy p q with c | c | c
  · have f1 : Hid (n = -1) := by unfold Hid; rw [f1.out]; unfold ordI; rw [if_pos c]
    go_enter Tryd.func32, Tryd.ntmps32
    go_wp2_with (first | (go_at_call_of 34 (Value.int IntKind.u64 a); refine (KA.out _).mono ?_; rintro e w' ⟨rfl, rfl⟩) | (go_at_call_of 34 (Value.int IntKind.u64 b); refine (KB.out _).mono ?_; rintro e w' ⟨rfl, rfl⟩) | (go_at_call_of 70 (Value.int IntKind.u64 a); refine (RA.out _).mono ?_; rintro e w' ⟨rfl, rfl⟩) | (go_at_call_of 70 (Value.int IntKind.u64 b); refine (RB.out _).mono ?_; rintro e w' ⟨rfl, rfl⟩))
    go_ret2
    exact ⟨by rw [f1.out, f2.out]; rfl, rfl⟩
  · subst c
    have f1 : Hid (n = 0) := by unfold Hid; rw [f1.out]; unfold ordI; rw [if_neg (by omega), if_neg (by omega)]
    go_enter Tryd.func32, Tryd.ntmps32
    go_wp2_with (first | (go_at_call_of 34 (Value.int IntKind.u64 a); refine (KA.out _).mono ?_; rintro e w' ⟨rfl, rfl⟩) | (go_at_call_of 34 (Value.int IntKind.u64 b); refine (KB.out _).mono ?_; rintro e w' ⟨rfl, rfl⟩) | (go_at_call_of 70 (Value.int IntKind.u64 a); refine (RA.out _).mono ?_; rintro e w' ⟨rfl, rfl⟩) | (go_at_call_of 70 (Value.int IntKind.u64 b); refine (RB.out _).mono ?_; rintro e w' ⟨rfl, rfl⟩))
    go_ret2
    exact ⟨by rw [f1.out, f2.out]; rfl, rfl⟩
  · have f1 : Hid (n = 1) := by unfold Hid; rw [f1.out]; unfold ordI; rw [if_neg (by omega), if_pos c]
    have c2 : ¬ p < q := by omega
    go_enter Tryd.func32, Tryd.ntmps32
    go_wp2_with (first | (go_at_call_of 34 (Value.int IntKind.u64 a); refine (KA.out _).mono ?_; rintro e w' ⟨rfl, rfl⟩) | (go_at_call_of 34 (Value.int IntKind.u64 b); refine (KB.out _).mono ?_; rintro e w' ⟨rfl, rfl⟩) | (go_at_call_of 70 (Value.int IntKind.u64 a); refine (RA.out _).mono ?_; rintro e w' ⟨rfl, rfl⟩) | (go_at_call_of 70 (Value.int IntKind.u64 b); refine (RB.out _).mono ?_; rintro e w' ⟨rfl, rfl⟩))
    go_ret2
    exact ⟨by rw [f1.out, f2.out]; rfl, rfl⟩

theorem word0 : Word 0 := ⟨Int.le_refl _, by decide⟩
theorem wsign_any (x : Int) (h : Word x) (w : World) : Calls Tryd.prog 62 #[.int .u64 x] w fun e w' => e = .returned (.int .i64 (cmpN x 0)) ∧ w = w' := by
  have C := Lib.hid (fun W => wcmp_any x 0 h word0 W)
  generalize cmpN x 0 = n at *
  generalize cmpB x 0 = o at *
  clear h
  go_enter Tryd.func62, Tryd.ntmps62
  go_wp2_with (go_at_call 32; refine (C.out _).mono ?_; rintro e w' ⟨rfl, rfl⟩)
  go_ret
  exact ⟨rfl, rfl⟩
end Go.Proofs.YtnefacnceemklaaDoor
