/-
  The document's answers to layer 2 (tabardref2): Nat, Part, End, Add, Sub; the law's own nat, is.
-/
import Derived.Test.YtomeidbigofnaaaL5
import Derived.Test.YtomeidbigofnaaaL5
namespace Go.Proofs.Ytomeidbigofnaaa
open Go.RowKit Go.Shelf

theorem Sl.drewN {w : World} {B : Nat} {A : Option Addr} {n c : Nat} {l : List Int} (h : Sl w B A n c l) (k : Nat) : Sl (w.drewN k) B A n c l := h.keep fun _ _ _ => rfl
/-- A contract that leaves the world alone, at a quiet region's call. -/
theorem qcall {P : Program} {f : FuncId} {args : Array Value} {w : World} {n : Nat} {v : Value} (h : Calls P f args (w.drewN n) fun e w' => e = .returned v ∧ w.drewN n = w') :
    Calls P f args (w.drewN n) fun e w'' => e = .returned v ∧ ∃ m, w'' = w.drewN m := h.mono fun _ _ ⟨he, hm⟩ => ⟨he, n, hm.symm⟩
theorem NatPost.mk {A : Option Addr} {n c : Nat} {l : List Int} {v : Int} {w w' : World} (hs : Sl w' w'.heap.size A n c l) (hn : Norm l) (hv : natV l = v) (fr : Fresh w.heap.size A) (hb : Below w.heap.size w w') : NatPost v w (.returned (.slice A n c)) w' := ⟨A, n, c, l, rfl, hs, hn, hv, fr, hb⟩

/-- A literal of limbs is a slice of the call's own. -/
theorem lit_own (w : World) (l : List Int) (n : Nat) (hn : l.length = n) (hm : n ≤ 1000) : (w.alloc (.cells (l.map (Value.int .u32)).toArray 62)).ownsRow w.heap.size 62 1 (.slice (some ⟨w.heap.size, 0, none⟩) n n) n (l.map (Value.int .u32)) := by
  have := World.ownsRow_lit (base := w.heap.size) (e := 62) (size := 1) w (l.map (Value.int .u32)).toArray n (Nat.le_refl _) (by unfold maxLen; omega) (by simpa using hn)
  simpa using this
theorem below_new (w : World) (o : Obj) : Below w.heap.size w (w.alloc o) := (Below.refl _ _).alloc (Nat.le_refl _) _

/-- 64 bits of a number. -/
def partI (v : Int) (i : Nat) : Int := v / pw (64 * (i : Int)) % 18446744073709551616
theorem part_dig {l : List Int} (hl : ∀ x ∈ l, Limb x) (i : Nat) : partI (natV l) i = digV l (2 * i + 1) * 4294967296 + digV l (2 * i) := by
  have d0 := natV_dig hl (2 * i)
  have d1 := natV_dig hl (2 * i + 1)
  rw [pw32, show 32 * ((2 * i : Nat) : Int) = 64 * (i : Int) by omega, Int.mul_comm, ← Int.ediv_ediv_of_nonneg (Int.le_of_lt (pw_pos _))] at d1
  rw [show 32 * ((2 * i : Nat) : Int) = 64 * (i : Int) by omega] at d0
  unfold partI
  generalize natV l / pw (64 * (i : Int)) = q at *
  omega

theorem val_nonneg {h l : Int} (h1 : Word h) (h2 : Word l) : 0 ≤ val h l ∧ val h l < 340282366920938463463374607431768211456 := by
  unfold val Word at *; omega
theorem part_val1 (h l : Int) (h1 : Word h) (h2 : Word l) : partI (val h l) 1 = h := by
  unfold partI val Word at *; rw [show pw (64 * ((1 : Nat) : Int)) = 18446744073709551616 from rfl]; omega
theorem part_val0 (h l : Int) (h2 : Word l) : partI (val h l) 0 = l := by
  unfold partI val Word at *; rw [show pw (64 * ((0 : Nat) : Int)) = 1 from rfl]; omega

/-- The law's own 'is', where it is so. -/
def TrueBelow (w : World) (e : Ending) (w' : World) : Prop := e = .returned (.bool true) ∧ Below w.heap.size w w'
/-- A natural and a bool. -/
def NatBPost (P : Int → Bool → Prop) (w : World) (e : Ending) (w' : World) : Prop :=
  ∃ A n c l o, e = .returned (.tuple #[.slice A n c, .bool o]) ∧ Sl w' w'.heap.size A n c l ∧ Norm l ∧ P (natV l) o ∧ Below w.heap.size w w'
theorem small_len {l : List Int} (hl : ∀ x ∈ l, Limb x) (hn : Norm l) (h : natV l < 115792089237316195423570985008687907853269984665640564039457584007913129639936) : l.length ≤ 8 :=
  norm_len hl hn (by rw [show pw (32 * ((8 : Nat) : Int)) = 115792089237316195423570985008687907853269984665640564039457584007913129639936 from rfl]; exact h)
theorem Sl.small {w : World} {B : Nat} {A : Option Addr} {n c : Nat} {l : List Int} (h : Sl w B A n c l) (hn : Norm l) (hv : natV l < 115792089237316195423570985008687907853269984665640564039457584007913129639936) : n ≤ 8 := by
  rw [← h.len]; exact small_len h.lim hn hv
theorem radd_mk {x y : Int} {w w' : World} {A : Option Addr} {n c : Nat} {l : List Int} {o : Bool} (hs : Sl w' w'.heap.size A n c l) (hn : Norm l) (hb : Below w.heap.size w w')
    (h : (o = true ∧ natV l + 340282366920938463463374607431768211456 = x + y) ∨ (o = false ∧ natV l = x + y ∧ natV l < 340282366920938463463374607431768211456)) :
    NatBPost (fun v o => (o = true ∧ v + 340282366920938463463374607431768211456 = x + y) ∨ (o = false ∧ v = x + y ∧ v < 340282366920938463463374607431768211456)) w (.returned (.tuple #[.slice A n c, .bool o])) w' := ⟨A, n, c, l, o, rfl, hs, hn, h, hb⟩

theorem rsub_mk {x y : Int} {w w' : World} {A : Option Addr} {n c : Nat} {l : List Int} {o : Bool} (hs : Sl w' w'.heap.size A n c l) (hn : Norm l) (hb : Below w.heap.size w w')
    (h : (o = true ∧ natV l = x - y + 340282366920938463463374607431768211456 ∧ x < y) ∨ (o = false ∧ natV l = x - y ∧ y ≤ x)) :
    NatBPost (fun v o => (o = true ∧ v = x - y + 340282366920938463463374607431768211456 ∧ x < y) ∨ (o = false ∧ v = x - y ∧ y ≤ x)) w (.returned (.tuple #[.slice A n c, .bool o])) w' := ⟨A, n, c, l, o, rfl, hs, hn, h, hb⟩
end Go.Proofs.Ytomeidbigofnaaa
