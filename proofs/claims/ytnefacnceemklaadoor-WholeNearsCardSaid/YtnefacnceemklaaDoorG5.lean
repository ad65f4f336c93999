/-
  whole.Is; the document's Parts and Is: walked.
-/
import Derived.Test.YtnefacnceemklaaDoorG4
namespace Go.Proofs.YtnefacnceemklaaDoor
open Go.RowKit Go.Shelf

set_option maxRecDepth 100000 in
theorem field_neg (s : Bool) (q r o : Int) (w : World) : (Instr.field 72 (.agg #[.bool s, .int .u64 q, .int .u64 r, .int .u64 o]) 0).run Tryd.prog w = .ok (.bool s) w := by first | rfl | kernel_rfl
set_option maxRecDepth 100000 in
theorem field_whole (s : Bool) (q r o : Int) (w : World) : (Instr.field 72 (.agg #[.bool s, .int .u64 q, .int .u64 r, .int .u64 o]) 1).run Tryd.prog w = .ok (.int .u64 q) w := by first | rfl | kernel_rfl
set_option maxRecDepth 100000 in
theorem field_rest (s : Bool) (q r o : Int) (w : World) : (Instr.field 72 (.agg #[.bool s, .int .u64 q, .int .u64 r, .int .u64 o]) 2).run Tryd.prog w = .ok (.int .u64 r) w := by first | rfl | kernel_rfl
set_option maxRecDepth 100000 in
theorem field_one (s : Bool) (q r o : Int) (w : World) : (Instr.field 72 (.agg #[.bool s, .int .u64 q, .int .u64 r, .int .u64 o]) 3).run Tryd.prog w = .ok (.int .u64 o) w := by first | rfl | kernel_rfl
theorem lit1 (W : World) : Sl (W.alloc (.cells #[.int .u32 1] 84)) (W.alloc (.cells #[.int .u32 1] 84)).heap.size (some ⟨W.heap.size, 0, none⟩) 1 1 [1] := by
  obtain ⟨A, c, e, h, _⟩ := Sl.of_own (lit_own W [1] 1 rfl (by decide)) (fun x hx => by simp at hx; subst hx; exact ⟨by decide, by decide⟩)
  cases e
  exact h

def isB (x : Int) : Bool := decide (kindI x < 3) && (leftI x == 0)
def BoolPost (b : Bool) (w : World) (e : Ending) (w' : World) : Prop := e = .returned (.bool b) ∧ Below w.heap.size w w'
set_option maxRecDepth 100000 in
set_option maxHeartbeats 1000000 in
theorem wis_any (x : Int) (h : Word x) (w : World) : Calls Tryd.prog 31 #[.int .u64 x] w (BoolPost (isB x) w) := by
  obtain ⟨k, hk⟩ : ∃ z, kindI x = z := ⟨_, rfl⟩
  have K := Lib.hid (fun W => kind_vars x k h hk W)
  have C := Lib.hid (fun W => cut_any x h W)
  obtain ⟨l, hl⟩ : ∃ z, leftI x = z := ⟨_, rfl⟩
  have HL := Lib.hid hl
  have IB : Hid (isB x = (decide (k < 3) && (l == 0))) := by unfold Hid isB; rw [hk, hl]
  generalize isB x = b at *
  clear hk hl h
  have hf2 := field_rest
  by_cases c : k < 3
  · go_enter Tryd.func31, Tryd.ntmps31
    go_wp2_with (go_at_call 34; refine (K.out _).mono ?_; rintro e w' ⟨rfl, rfl⟩)
    refine (C.out _).mono ?_
    rintro e w1 ⟨q, r, o, rfl, hc, hb⟩
    have hz := hc.z
    rw [HL.out] at hz
    clear hc
    by_cases r0 : r = 0
    · have t1 : (r == 0) = true := by simpa using r0
      have fin : Hid (b = true) := by unfold Hid; rw [IB.out]; simp [c, hz.1 r0]
      clear hz r0 IB
      go_wp2
      go_ret
      exact ⟨by rw [fin.out]; rfl, by first | exact hb | exact hb.alloc hb.size _⟩
    · have t1 : (r == 0) = false := by simpa using r0
      have fin : Hid (b = false) := by unfold Hid; rw [IB.out]; simp [c, mt hz.2 r0]
      clear hz r0 IB
      go_wp2
      go_ret
      exact ⟨by rw [fin.out]; rfl, by first | exact hb | exact hb.alloc hb.size _⟩
  · have fin : Hid (b = false) := by unfold Hid; rw [IB.out]; simp [c]
    clear IB hf2
    go_enter Tryd.func31, Tryd.ntmps31
    go_wp2_with (go_at_call 34; refine (K.out _).mono ?_; rintro e w' ⟨rfl, rfl⟩)
    go_ret
    exact ⟨by rw [fin.out]; rfl, Below.refl _ _⟩

/-- Twice what is left against one. -/
def halfI (x : Int) : Int := if 0 ≤ powI x then -1 else cmpI (2 * leftI x) (pw (-powI x))
def Parts6Post (x : Int) (w : World) (e : Ending) (w' : World) : Prop :=
  ∃ A n c l, e = .returned (.tuple #[.slice A n c, .int .i64 (halfI x), .bool (leftI x == 0)]) ∧ Sl w' w'.heap.size A n c l ∧ Norm l ∧ natV l = wholI x ∧ Below w.heap.size w w'
theorem parts6_mk {x hv v : Int} {b : Bool} {A : Option Addr} {n c : Nat} {l : List Int} {w w' : World} (e1 : halfI x = hv) (e2 : (leftI x == 0) = b) (e3 : wholI x = v) (hs : Sl w' w'.heap.size A n c l) (hn : Norm l) (hl : natV l = v) (hb : Below w.heap.size w w') :
    Parts6Post x w (.returned (.tuple #[.slice A n c, .int .i64 hv, .bool b])) w' := ⟨A, n, c, l, by rw [e1, e2], hs, hn, by rw [hl, e3], hb⟩
theorem pw_small {k : Int} (h0 : 0 ≤ k) (h : k ≤ 1074) : pw k < pw (32 * ((40 : Nat) : Int)) := by
  have a := pw_mono (a := k) (b := 1074) h0 h
  have b := pw_succ 1074 (by decide)
  have c := pw_mono (a := 1074 + 1) (b := 32 * ((40 : Nat) : Int)) (by decide) (by decide)
  have d := pw_pos 1074
  omega

end Go.Proofs.YtnefacnceemklaaDoor
