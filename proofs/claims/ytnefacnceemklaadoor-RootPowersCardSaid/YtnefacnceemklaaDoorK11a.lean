/-
  The document's tests of kinds; its rounding with a little more.
-/
import Derived.Test.YtnefacnceemklaaDoorK4
import Derived.Test.YtnefacnceemklaaDoorX5
namespace Go.Proofs.YtnefacnceemklaaDoor
open Go.RowKit Go.Shelf

theorem none5 (x k : Int) (h : Word x) (hk : kindI x = k) (w : World) : Calls Tryd.prog 39 #[.int .u64 x] w fun e w' => e = .returned (.bool (k == 4)) ∧ w = w' := by
  have K := Lib.hid (fun W => rkind_vars x k h hk W)
  clear h hk
  go_enter Tryd.func39, Tryd.ntmps39
  go_wp2_with (go_at_call 25; refine (K.out _).mono ?_; rintro e w' ⟨rfl, rfl⟩)
  go_ret
  exact ⟨rfl, rfl⟩
theorem endless5 (x k : Int) (h : Word x) (hk : kindI x = k) (w : World) : Calls Tryd.prog 40 #[.int .u64 x] w fun e w' => e = .returned (.bool (k == 3)) ∧ w = w' := by
  have K := Lib.hid (fun W => rkind_vars x k h hk W)
  clear h hk
  go_enter Tryd.func40, Tryd.ntmps40
  go_wp2_with (go_at_call 25; refine (K.out _).mono ?_; rintro e w' ⟨rfl, rfl⟩)
  go_ret
  exact ⟨rfl, rfl⟩
theorem zero5 (x k : Int) (h : Word x) (hk : kindI x = k) (w : World) : Calls Tryd.prog 41 #[.int .u64 x] w fun e w' => e = .returned (.bool (k == 0)) ∧ w = w' := by
  have K := Lib.hid (fun W => rkind_vars x k h hk W)
  clear h hk
  go_enter Tryd.func41, Tryd.ntmps41
  go_wp2_with (go_at_call 25; refine (K.out _).mono ?_; rintro e w' ⟨rfl, rfl⟩)
  go_ret
  exact ⟨rfl, rfl⟩
theorem with_inf (s : Bool) (w : World) : Calls Tryd.prog 42 #[.bool s, .int .u64 9218868437227405312] w fun e w' => e = .returned (.int .u64 (signI s + 9218868437227405312)) ∧ w = w' := by
  cases s
  all_goals
    go_enter Tryd.func42, Tryd.ntmps42
    go_wp2
    go_ret
    exact ⟨rfl, rfl⟩
theorem with_zero (s : Bool) (w : World) : Calls Tryd.prog 42 #[.bool s, .int .u64 0] w fun e w' => e = .returned (.int .u64 (signI s)) ∧ w = w' := by
  cases s
  all_goals
    go_enter Tryd.func42, Tryd.ntmps42
    go_wp2
    go_ret
    exact ⟨rfl, rfl⟩
theorem rround_more (neg more : Bool) (A : Option Addr) (n c : Nat) (l : List Int) (e : Int) (w : World) (h : Sl w w.heap.size A n c l) (hn : n ≤ 3000) (he0 : -9223372036854775808 ≤ e) (he1 : e ≤ 9223372036854775807) {v r : Int} (hv : natV l = v) (hr : joinV neg v e (blen v) more = r) :
    Calls Tryd.prog 46 #[.bool neg, .slice A n c, .int .i64 e, .bool more] w (WordPost r w) := by
  refine (rround_any neg A n c l e more w h hn he0 he1).mono ?_
  rintro en w' ⟨L, hL, rfl, hb⟩
  refine ⟨?_, hb⟩
  obtain ⟨k, rfl, hk⟩ := hL.bits
  rw [joinV_len hk, hv, ← hr]
theorem len_pos {w : World} {B : Nat} {A : Option Addr} {n c : Nat} {l : List Int} (h : Sl w B A n c l) (hn : Norm l) {v : Int} (hv : natV l = v) : decide (0 < n) = (v != 0) := by
  have hl := h.len
  by_cases c0 : n = 0
  · subst c0
    have : l = [] := List.eq_nil_of_length_eq_zero hl
    subst this
    rw [← hv]; rfl
  · have := natV_pos h.lim hn (fun e => by rw [e] at hl; simp at hl; omega)
    rw [hv] at this
    have a : (v != 0) = true := by simp; omega
    rw [a]; simp; omega
end Go.Proofs.YtnefacnceemklaaDoor
