/-
  whole.Whole: walked.
-/
import Derived.Test.YtnefacnceemklaaDoorG6
namespace Go.Proofs.YtnefacnceemklaaDoor
open Go.RowKit Go.Shelf

theorem joinR_any (neg : Bool) (v e : Int) (h : Word v) (he0 : -9223372036854775808 ≤ e) (he1 : e ≤ 9223372036854775807) (w : World) :
    Calls Tryd.prog 37 #[.bool neg, .agg #[.int .u64 0, .int .u64 v], .int .i64 e, .bool false] w (WordPost (rndI neg v e) w) := by
  refine (join_any neg 0 v e false word0 h he0 he1 w).mono fun en w' hp => ?_
  have ev : val 0 v = v := by unfold val; omega
  rw [ev] at hp
  obtain ⟨n, _, h1, h2, h3, h4⟩ := join_full h.1 hp
  refine ⟨?_, h4⟩
  rw [h3]
  unfold rndI
  rw [joinV_len (more := false) (neg := neg) (e := e) (n := n) ⟨h.1, h1, h2⟩]

set_option maxRecDepth 100000 in
theorem eqnil0 (w : World) : (binOp .eql 23 .nilFunc .nilFunc).run Tryd.prog w = .ok (.bool true) w := by first | rfl | kernel_rfl
set_option maxRecDepth 100000 in
theorem eqnil1 (f : Fn) (a b : Array Value) (w : World) : (binOp .eql 23 (.func f a b) .nilFunc).run Tryd.prog w = .ok (.bool false) w := by first | rfl | kernel_rfl

def WholePost (v k : Int) (w : World) (e : Ending) (w' : World) : Prop := e = .returned (.tuple #[.int .u64 v, .int .i64 k]) ∧ Below w.heap.size w w'
set_option maxRecDepth 100000 in
set_option maxHeartbeats 1000000 in
theorem whole_arg (x y : Int) (h : Word x) (h0 : y < 0 ∨ 5 < y) (w : World) : Calls Tryd.prog 30 #[.int .u64 x, .int .i64 y] w (WholePost 0 1 w) := by
  have C := Lib.hid (fun W => cut_any x h W)
  have R := Lib.hid (fun s q r o W => rule_nil s q r o y h0 W)
  have e0 := eqnil0
  clear h h0
  go_enter Tryd.func30, Tryd.ntmps30
  go_wp2_with fail
  refine (C.out _).mono ?_
  rintro e w1 ⟨q, r, o, rfl, hc, hb1⟩
  go_wp2_with fail
  refine (R.out _ _ _ _ _).mono ?_
  rintro e w2 ⟨rfl, hb2⟩
  go_wp2
  go_ret2
  exact ⟨rfl, (hb1.alloc hb1.size _).trans (hb2.mono (by have := hb1.size; simp; omega))⟩

/-- Is a finite number's whole part to be one more, by a way? -/
def upX (y x : Int) : Bool := !(leftI x == 0) &&
  (if y = 0 then decide (0 < halfI x) || (halfI x == 0 && wholI x % 2 == 1) else if y = 1 then decide (0 ≤ halfI x) else if y = 2 then false else if y = 3 then true else if y = 4 then negB x else !negB x)
def wholeV (y x : Int) : Int := if 3 ≤ kindI x then rightI x else rndI (negB x) (wholI x + (if upX y x = true then 1 else 0)) 0
theorem whole_exact {y x : Int} (h : Word x) (hk : kindI x < 3) (hl : leftI x = 0) : wholeV y x = x := by
  unfold wholeV upX
  rw [if_neg (by omega), hl]
  have := whol_self h (fin_of_kind h hk) hl
  simpa using this
theorem up_facts {x q r o : Int} (hc : CutAt x q r o) (r0 : r ≠ 0) : q = wholI x ∧ q < 9007199254740992 ∧ leftI x ≠ 0 ∧ upX 0 x = evenW q r o ∧ upX 1 x = awayW r o ∧ upX 2 x = false ∧ upX 3 x = true ∧ upX 4 x = negB x ∧ upX 5 x = !negB x := by
  have l0 : leftI x ≠ 0 := fun e => r0 (hc.z.2 e)
  have lb : (leftI x == 0) = false := by simpa using l0
  obtain ⟨q1, q2⟩ := hc.q r0
  have p0 : ¬ 0 ≤ powI x := fun c => l0 (by unfold leftI; rw [if_pos c])
  have hh : halfI x = cmpI r (o / 2) := by unfold halfI; rw [if_neg p0, hc.half r0]
  refine ⟨q1, q2, l0, ?_, ?_, ?_, ?_, ?_, ?_⟩
  · unfold upX evenW
    rw [lb, hh, ← q1]
    unfold cmpI
    rcases Int.lt_trichotomy r (o / 2) with c | c | c
    · have c2 : r ≠ o / 2 := by omega
      have c3 : ¬ o / 2 < r := by omega
      simp [c, c2, c3]
    · simp [c]
    · have c2 : r ≠ o / 2 := by omega
      have c3 : ¬ r < o / 2 := by omega
      simp [c, c2, c3]
  · unfold upX awayW
    rw [lb, hh]
    unfold cmpI
    rcases Int.lt_trichotomy r (o / 2) with c | c | c
    · have c3 : ¬ o / 2 ≤ r := by omega
      simp [c, c3]
    · simp [c]
    · have c2 : r ≠ o / 2 := by omega
      have c3 : ¬ r < o / 2 := by omega
      have c4 : o / 2 ≤ r := by omega
      simp [c2, c3, c4]
  · unfold upX; rw [lb]; rfl
  · unfold upX; rw [lb]; rfl
  · unfold upX; rw [lb]; simp
  · unfold upX; rw [lb]; simp

end Go.Proofs.YtnefacnceemklaaDoor
