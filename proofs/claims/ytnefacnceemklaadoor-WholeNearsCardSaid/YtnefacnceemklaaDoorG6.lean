/-
  whole's rules: the method values and what each tells.
-/
import Derived.Test.YtnefacnceemklaaDoorG5
namespace Go.Proofs.YtnefacnceemklaaDoor
open Go.RowKit Go.Shelf

def partsV (s : Bool) (q r o : Int) : Value := .agg #[.bool s, .int .u64 q, .int .u64 r, .int .u64 o]
def ruleV (way : Int) (s : Bool) (q r o : Int) : Value :=
  if way = 0 then .func (.func 97) #[partsV s q r o] #[] else if way = 1 then .func (.func 98) #[partsV s q r o] #[] else if way = 2 then .func (.func 99) #[partsV s q r o] #[]
  else if way = 3 then .func (.func 100) #[partsV s q r o] #[] else if way = 4 then .func (.func 101) #[partsV s q r o] #[] else if way = 5 then .func (.func 102) #[partsV s q r o] #[] else .nilFunc
set_option maxRecDepth 100000 in
theorem rule0 (s : Bool) (q r o : Int) (w : World) : Calls Tryd.prog 68 #[.agg #[.bool s, .int .u64 q, .int .u64 r, .int .u64 o], .int .i64 0] w fun e w' => e = .returned (.func (.func 97) #[.agg #[.bool s, .int .u64 q, .int .u64 r, .int .u64 o]] #[]) ∧ Below w.heap.size w w' := by
  have hmf : ∀ (fn : Fn) (first cap : Array Value) (w : World), (Instr.makeFunc fn first cap).run Tryd.prog w = .ok (.func fn first cap) w := fun _ _ _ _ => rfl
  go_enter Tryd.func68, Tryd.ntmps68
  go_wp2
  go_ret
  exact ⟨rfl, (Below.refl _ _).alloc (Nat.le_refl _) _⟩
set_option maxRecDepth 100000 in
theorem rule1 (s : Bool) (q r o : Int) (w : World) : Calls Tryd.prog 68 #[.agg #[.bool s, .int .u64 q, .int .u64 r, .int .u64 o], .int .i64 1] w fun e w' => e = .returned (.func (.func 98) #[.agg #[.bool s, .int .u64 q, .int .u64 r, .int .u64 o]] #[]) ∧ Below w.heap.size w w' := by
  have hmf : ∀ (fn : Fn) (first cap : Array Value) (w : World), (Instr.makeFunc fn first cap).run Tryd.prog w = .ok (.func fn first cap) w := fun _ _ _ _ => rfl
  go_enter Tryd.func68, Tryd.ntmps68
  go_wp2
  go_ret
  exact ⟨rfl, (Below.refl _ _).alloc (Nat.le_refl _) _⟩
set_option maxRecDepth 100000 in
theorem rule2 (s : Bool) (q r o : Int) (w : World) : Calls Tryd.prog 68 #[.agg #[.bool s, .int .u64 q, .int .u64 r, .int .u64 o], .int .i64 2] w fun e w' => e = .returned (.func (.func 99) #[.agg #[.bool s, .int .u64 q, .int .u64 r, .int .u64 o]] #[]) ∧ Below w.heap.size w w' := by
  have hmf : ∀ (fn : Fn) (first cap : Array Value) (w : World), (Instr.makeFunc fn first cap).run Tryd.prog w = .ok (.func fn first cap) w := fun _ _ _ _ => rfl
  go_enter Tryd.func68, Tryd.ntmps68
  go_wp2
  go_ret
  exact ⟨rfl, (Below.refl _ _).alloc (Nat.le_refl _) _⟩
set_option maxRecDepth 100000 in
theorem rule3 (s : Bool) (q r o : Int) (w : World) : Calls Tryd.prog 68 #[.agg #[.bool s, .int .u64 q, .int .u64 r, .int .u64 o], .int .i64 3] w fun e w' => e = .returned (.func (.func 100) #[.agg #[.bool s, .int .u64 q, .int .u64 r, .int .u64 o]] #[]) ∧ Below w.heap.size w w' := by
  have hmf : ∀ (fn : Fn) (first cap : Array Value) (w : World), (Instr.makeFunc fn first cap).run Tryd.prog w = .ok (.func fn first cap) w := fun _ _ _ _ => rfl
  go_enter Tryd.func68, Tryd.ntmps68
  go_wp2
  go_ret
  exact ⟨rfl, (Below.refl _ _).alloc (Nat.le_refl _) _⟩
set_option maxRecDepth 100000 in
theorem rule4 (s : Bool) (q r o : Int) (w : World) : Calls Tryd.prog 68 #[.agg #[.bool s, .int .u64 q, .int .u64 r, .int .u64 o], .int .i64 4] w fun e w' => e = .returned (.func (.func 101) #[.agg #[.bool s, .int .u64 q, .int .u64 r, .int .u64 o]] #[]) ∧ Below w.heap.size w w' := by
  have hmf : ∀ (fn : Fn) (first cap : Array Value) (w : World), (Instr.makeFunc fn first cap).run Tryd.prog w = .ok (.func fn first cap) w := fun _ _ _ _ => rfl
  go_enter Tryd.func68, Tryd.ntmps68
  go_wp2
  go_ret
  exact ⟨rfl, (Below.refl _ _).alloc (Nat.le_refl _) _⟩
set_option maxRecDepth 100000 in
theorem rule5 (s : Bool) (q r o : Int) (w : World) : Calls Tryd.prog 68 #[.agg #[.bool s, .int .u64 q, .int .u64 r, .int .u64 o], .int .i64 5] w fun e w' => e = .returned (.func (.func 102) #[.agg #[.bool s, .int .u64 q, .int .u64 r, .int .u64 o]] #[]) ∧ Below w.heap.size w w' := by
  have hmf : ∀ (fn : Fn) (first cap : Array Value) (w : World), (Instr.makeFunc fn first cap).run Tryd.prog w = .ok (.func fn first cap) w := fun _ _ _ _ => rfl
  go_enter Tryd.func68, Tryd.ntmps68
  go_wp2
  go_ret
  exact ⟨rfl, (Below.refl _ _).alloc (Nat.le_refl _) _⟩
set_option maxRecDepth 100000 in
theorem rule_nil (s : Bool) (q r o : Int) (y : Int) (h0 : y < 0 ∨ 5 < y) (w : World) : Calls Tryd.prog 68 #[.agg #[.bool s, .int .u64 q, .int .u64 r, .int .u64 o], .int .i64 y] w fun e w' => e = .returned .nilFunc ∧ Below w.heap.size w w' := by
  have t0 : (y == 0) = false := by simp; omega
  have t1 : (y == 1) = false := by simp; omega
  have t2 : (y == 2) = false := by simp; omega
  have t3 : (y == 3) = false := by simp; omega
  have t4 : (y == 4) = false := by simp; omega
  have t5 : (y == 5) = false := by simp; omega
  go_enter Tryd.func68, Tryd.ntmps68
  go_wp2
  go_ret
  exact ⟨rfl, (Below.refl _ _).alloc (Nat.le_refl _) _⟩

/-- Is the whole part one more, by a rule. -/
def evenW (q r o : Int) : Bool := decide (o / 2 < r) || (r == o / 2 && q % 2 == 1)
def awayW (r o : Int) : Bool := decide (o / 2 ≤ r)
set_option maxRecDepth 100000 in
theorem down_any (s : Bool) (q r o : Int) (_hq : Word q) (_hr : Word r) (_ho : Word o) (w : World) : Calls Tryd.prog 99 #[.agg #[.bool s, .int .u64 q, .int .u64 r, .int .u64 o]] w (BoolPost (false) w) := by
  clear _hq _hr _ho
  go_enter Tryd.func99, Tryd.ntmps99
  go_wp2
  go_ret
  exact ⟨rfl, (Below.refl _ _).alloc (Nat.le_refl _) _⟩
set_option maxRecDepth 100000 in
theorem up_any (s : Bool) (q r o : Int) (_hq : Word q) (_hr : Word r) (_ho : Word o) (w : World) : Calls Tryd.prog 100 #[.agg #[.bool s, .int .u64 q, .int .u64 r, .int .u64 o]] w (BoolPost (true) w) := by
  clear _hq _hr _ho
  go_enter Tryd.func100, Tryd.ntmps100
  go_wp2
  go_ret
  exact ⟨rfl, (Below.refl _ _).alloc (Nat.le_refl _) _⟩
set_option maxRecDepth 100000 in
theorem low_any (s : Bool) (q r o : Int) (_hq : Word q) (_hr : Word r) (_ho : Word o) (w : World) : Calls Tryd.prog 101 #[.agg #[.bool s, .int .u64 q, .int .u64 r, .int .u64 o]] w (BoolPost (s) w) := by
  clear _hq _hr _ho
  go_enter Tryd.func101, Tryd.ntmps101
  go_wp2
  go_ret
  exact ⟨rfl, (Below.refl _ _).alloc (Nat.le_refl _) _⟩
set_option maxRecDepth 100000 in
theorem high_any (s : Bool) (q r o : Int) (_hq : Word q) (_hr : Word r) (_ho : Word o) (w : World) : Calls Tryd.prog 102 #[.agg #[.bool s, .int .u64 q, .int .u64 r, .int .u64 o]] w (BoolPost (!s) w) := by
  clear _hq _hr _ho
  go_enter Tryd.func102, Tryd.ntmps102
  go_wp2
  go_ret
  exact ⟨rfl, (Below.refl _ _).alloc (Nat.le_refl _) _⟩
set_option maxRecDepth 100000 in
theorem away_any (s : Bool) (q r o : Int) (_hq : Word q) (hr : Word r) (ho : Word o) (w : World) : Calls Tryd.prog 98 #[.agg #[.bool s, .int .u64 q, .int .u64 r, .int .u64 o]] w (BoolPost (awayW r o) w) := by
  obtain ⟨o0, o1⟩ := ho
  obtain ⟨r0, r1⟩ := hr
  have h0 : 0 ≤ o / 2 := by omega
  have h1 : o / 2 < 18446744073709551616 := by omega
  unfold awayW
  obtain ⟨h, hh⟩ : ∃ z, o / 2 = z := ⟨_, rfl⟩
  rw [hh] at h0 h1 ⊢
  clear _hq
  by_cases c : h ≤ r
  all_goals
    go_enter Tryd.func98, Tryd.ntmps98
    go_wp2
    go_ret
    exact ⟨by simp [c], (Below.refl _ _).alloc (Nat.le_refl _) _⟩
set_option maxRecDepth 100000 in
theorem even_any (s : Bool) (q r o : Int) (hq : Word q) (hr : Word r) (ho : Word o) (w : World) : Calls Tryd.prog 97 #[.agg #[.bool s, .int .u64 q, .int .u64 r, .int .u64 o]] w (BoolPost (evenW q r o) w) := by
  obtain ⟨o0, o1⟩ := ho
  obtain ⟨r0, r1⟩ := hr
  have ea := and_one q hq.1 hq.2
  have h0 : 0 ≤ o / 2 := by omega
  have h1 : o / 2 < 18446744073709551616 := by omega
  unfold evenW
  obtain ⟨h, hh⟩ : ∃ z, o / 2 = z := ⟨_, rfl⟩
  obtain ⟨t, ht⟩ : ∃ z, q % 2 = z := ⟨_, rfl⟩
  rw [hh] at h0 h1 ⊢
  rw [ht] at ea ⊢
  clear hq ht
  rcases Int.lt_trichotomy h r with c | c | c
  · go_enter Tryd.func97, Tryd.ntmps97
    go_wp2
    go_ret
    exact ⟨by simp [c], (Below.refl _ _).alloc (Nat.le_refl _) _⟩
  · subst c
    have c1 : ¬ h < h := by omega
    have c2 : (h == h) = true := by simp
    go_enter Tryd.func97, Tryd.ntmps97
    go_wp2
    go_ret
    exact ⟨by simp, (Below.refl _ _).alloc (Nat.le_refl _) _⟩
  · have c1 : ¬ h < r := by omega
    have c2 : (r == h) = false := by simp; omega
    go_enter Tryd.func97, Tryd.ntmps97
    go_wp2
    go_ret
    exact ⟨by simp [c1], (Below.refl _ _).alloc (Nat.le_refl _) _⟩
end Go.Proofs.YtnefacnceemklaaDoor
