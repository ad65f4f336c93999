/-
  root.Div: walked.
-/
import Derived.Test.YtnefacnceemklaaDoorX7
import Derived.Test.YtnefacnceemklaaDoorX5
namespace Go.Proofs.YtnefacnceemklaaDoor
open Go.RowKit Go.Shelf

def divK (k j : Int) (s : Bool) (q : Int) : Int :=
  if k = 4 ∨ j = 4 ∨ (k = 3 ∧ j = 3) ∨ (k = 0 ∧ j = 0) then 9221120237041090560
  else if k = 3 ∨ j = 0 then signI s + 9218868437227405312
  else if k = 0 ∨ j = 3 then signI s else q
def divV (a b : Int) : Int := divK (kindI a) (kindI b) (negB a != negB b) (quoV (negB a != negB b) (mantI a) (powI a) (mantI b) (powI b))

/-- The finite quotient, as the code makes it. -/
theorem div_fin {a b : Int} (h1 : Word a) (h2 : Word b) (f1 : expI a ≠ 2047) (f2 : expI b ≠ 2047) (z1 : absI a ≠ 0) (z2 : absI b ≠ 0) (neg : Bool) :
    ∃ m e by_ eb : Int, Word m ∧ Word by_ ∧ 0 < by_ ∧ -2000 ≤ e ∧ e ≤ 2000 ∧ -2000 ≤ eb ∧ eb ≤ 2000 ∧
    (∀ W, Calls Tryd.prog 35 #[.int .u64 a] W fun en w' => en = .returned (.tuple #[.int .u64 m, .int .i64 e]) ∧ W = w') ∧
    (∀ W, Calls Tryd.prog 35 #[.int .u64 b] W fun en w' => en = .returned (.tuple #[.int .u64 by_, .int .i64 eb]) ∧ W = w') ∧
    joinV neg (m * 18446744073709551616 / by_) (e - 64 - eb) (blen (m * 18446744073709551616 / by_)) (m * 18446744073709551616 % by_ != 0) = quoV neg (mantI a) (powI a) (mantI b) (powI b) := by
  obtain ⟨a1, a2, a3, a4, a5, a6, a7⟩ := spr_bd h1 f1 z1
  obtain ⟨b1, b2, b3, b4, b5, b6, b7⟩ := spr_bd h2 f2 z2
  obtain ⟨_, _, p0, p1⟩ := mant_bd a h1
  obtain ⟨_, _, q0, q1⟩ := mant_bd b h2
  refine ⟨_, _, _, _, ⟨by omega, by omega⟩, ⟨by omega, by omega⟩, by omega, ?_, ?_, ?_, ?_, fun W => spread_any a h1 f1 z1 W, fun W => spread_any b h2 f2 z2 W, ?_⟩
  · omega
  · omega
  · omega
  · omega
  · exact quo_same neg (powI a) (powI b) (by omega) b7 a1 (by omega) b1 a3 b4
theorem DivPost.at {h l v b q r : Int} {_n : Bool} {_e : Int} (hq : v / b = q) (hr : v % b = r) (_hv : val h l = v) : ∀ (w : World) (en : Ending) (w' : World), DivPost v b w en w' →
    ∃ x y : Int, Word x ∧ Word y ∧ val x y = q ∧ en = .returned (.tuple #[.agg #[.int .u64 x, .int .u64 y], .int .u64 r, .int .i64 0]) ∧ Below w.heap.size w w' := by
  rintro w en w' ⟨x, y, z, rfl, hx, hy, hz, e1, e2, hb⟩
  exact ⟨x, y, hx, hy, by rw [e1, hq], by rw [e2, hr], hb⟩
theorem JoinPost.word {neg more : Bool} {x y e r : Int} (hx : Word x) (hy : Word y) (he0 : -9223372036854775808 ≤ e) (he1 : e ≤ 9223372036854775807) (hr : joinV neg (val x y) e (blen (val x y)) more = r) (w : World) :
    Calls Tryd.prog 37 #[.bool neg, .agg #[.int .u64 x, .int .u64 y], .int .i64 e, .bool more] w (WordPost r w) := by
  refine (join_any neg x y e more hx hy he0 he1 w).mono fun en w' hp => ?_
  have v0 := (val_bd hx hy).1
  obtain ⟨n, _, h1, h2, h3, h4⟩ := join_full v0 hp
  refine ⟨?_, h4⟩
  rw [h3, ← hr, joinV_len (more := more) (neg := neg) (e := e) (n := n) ⟨v0, h1, h2⟩]
set_option maxRecDepth 100000 in
set_option maxHeartbeats 8000000 in
theorem div5_any (a b : Int) (h1 : Word a) (h2 : Word b) (w : World) : Calls Tryd.prog 14 #[.int .u64 a, .int .u64 b] w (WordPost (divV a b) w) := by
  obtain ⟨k, hk⟩ : ∃ z, kindI a = z := ⟨_, rfl⟩
  obtain ⟨j, hj⟩ : ∃ z, kindI b = z := ⟨_, rfl⟩
  have bk := kind_bd a
  have bj := kind_bd b
  rw [hk] at bk; rw [hj] at bj
  have KA := Lib.hid (fun W => kind_vars a k h1 hk W)
  have KB := Lib.hid (fun W => kind_vars b j h2 hj W)
  have hx := sign_xor a b h1 h2
  have ho := or_sign (negB a != negB b) 9218868437227405312 (by decide) (by decide)
  have hne : (signI (negB a != negB b) != 0) = (negB a != negB b) := by cases (negB a != negB b) <;> rfl
  have FI := Lib.hid (fun (c1 : k < 3) (c2 : j < 3) (c3 : k ≠ 0) (c4 : j ≠ 0) => div_fin h1 h2 (fin_of_kind h1 (by omega)) (fin_of_kind h2 (by omega)) (nz_of_kind h1 (by omega) (by omega)) (nz_of_kind h2 (by omega) (by omega)) (negB a != negB b))
  have V : Hid (divV a b = divK k j (negB a != negB b) (quoV (negB a != negB b) (mantI a) (powI a) (mantI b) (powI b))) := by unfold Hid divV; rw [hk, hj]
  generalize quoV (negB a != negB b) (mantI a) (powI a) (mantI b) (powI b) = q at *
  generalize divV a b = v at *
  generalize (negB a != negB b) = s at *
  clear h1 h2 hk hj
  by_cases fin : (k = 1 ∨ k = 2) ∧ (j = 1 ∨ j = 2)
  · obtain ⟨m, e, d, eb, wm, wd, d0, e0, e1, g0, g1, SA, SB, hv⟩ := FI.out (by omega) (by omega) (by omega) (by omega)
    have fv : Hid (v = q) := by unfold Hid; rw [V.out]; unfold divK; rw [if_neg (by omega), if_neg (by omega), if_neg (by omega)]
    have SA := Lib.hid SA; have SB := Lib.hid SB
    have JN := Lib.hid (fun x y hx hy => fun (hr : _ = q) W => JoinPost.word (neg := s) (more := (m * 18446744073709551616 % d != 0)) (x := x) (y := y) (e := e - 64 - eb) (r := q) hx hy (by omega) (by omega) hr W)
    have vm : val m 0 = m * 18446744073709551616 := by unfold val; omega
    have DV := Lib.hid (fun W => div_any m 0 d wm ⟨by decide, by decide⟩ wd d0 W)
    obtain ⟨Q, hQ⟩ : ∃ z, m * 18446744073709551616 / d = z := ⟨_, rfl⟩
    obtain ⟨r, hr⟩ : ∃ z, m * 18446744073709551616 % d = z := ⟨_, rfl⟩
    rw [vm] at DV
    have DP := Lib.hid (fun W en W' hp => DivPost.at (h := m) (l := 0) (_n := true) (_e := 0) hQ hr vm W en W' hp)
    rw [hQ, hr] at hv
    rw [hr] at JN
    have HV := Lib.hid hv
    have t0 : (r != 0) = (r != 0) := rfl
    clear V FI hQ hr hv vm wm wd d0 t0
    obtain ⟨x1, x2⟩ := fin
    rcases x1 with rfl | rfl <;> rcases x2 with rfl | rfl
    all_goals
      go_enter Tryd.func14, Tryd.ntmps14
      go_wp2_with (first | (go_at_call_of 34 (Value.int IntKind.u64 a); refine (KA.out _).mono ?_; rintro e w' ⟨rfl, rfl⟩) | (go_at_call_of 34 (Value.int IntKind.u64 b); refine (KB.out _).mono ?_; rintro e w' ⟨rfl, rfl⟩))
      refine (SA.out _).mono ?_
      rintro en w1 ⟨rfl, rfl⟩
      go_wp2_with fail
      refine (SB.out _).mono ?_
      rintro en w1 ⟨rfl, rfl⟩
      go_wp2_with fail
      refine (DV.out _).mono ?_
      intro en w1 hp
      obtain ⟨x, y, wx, wy, hxy, rfl, hb1⟩ := DP.out _ _ _ hp
      have CJ := Lib.hid (JN.out x y wx wy (by rw [hxy]; exact HV.out))
      clear hp wx wy hxy
      go_wp2_with fail
      refine (CJ.out _).mono ?_
      rintro en w2 ⟨rfl, hb2⟩
      have hB2 := (hb1.alloc hb1.size _).trans (hb2.mono (by have := hb1.size; simp; omega))
      go_wp2
      go_ret
      exact ⟨by rw [fv.out]; rfl, hB2⟩
  · have ck : k = 0 ∨ k = 1 ∨ k = 2 ∨ k = 3 ∨ k = 4 := by omega
    have cj : j = 0 ∨ j = 1 ∨ j = 2 ∨ j = 3 ∨ j = 4 := by omega
    clear FI bk bj
    rcases ck with rfl | rfl | rfl | rfl | rfl <;> rcases cj with rfl | rfl | rfl | rfl | rfl
    all_goals first
      | (exact absurd ⟨by decide, by decide⟩ fin)
      | (clear fin
         have V := Lib.hid (show v = _ from V.out)
         unfold divK at V
         simp at V
         go_enter Tryd.func14, Tryd.ntmps14
         go_wp2_with (first | (go_at_call_of 34 (Value.int IntKind.u64 a); refine (KA.out _).mono ?_; rintro e w' ⟨rfl, rfl⟩) | (go_at_call_of 34 (Value.int IntKind.u64 b); refine (KB.out _).mono ?_; rintro e w' ⟨rfl, rfl⟩))
         go_ret
         exact ⟨by rw [V.out]; rfl, Below.refl _ _⟩)
end Go.Proofs.YtnefacnceemklaaDoor
