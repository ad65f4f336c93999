/-
  The chapter's examples: what they come to.
-/
import Derived.Test.YtikcggbkkgipoaaDoorA4
import Derived.Test.YtikcggbkkgipoaaDoorA5
import Derived.Test.YtikcggbkkgipoaaDoorB5
import Derived.Test.YtikcggbkkgipoaaDoorD3
import Derived.Test.YtikcggbkkgipoaaDoorD4
import Derived.Test.YtikcggbkkgipoaaDoorE3
import Derived.Test.YtikcggbkkgipoaaDoorG1
import Derived.Test.YtikcggbkkgipoaaDoorG2
import Derived.Test.YtikcggbkkgipoaaDoorG3
namespace Go.Proofs.YtikcggbkkgipoaaDoor
open Go.RowKit Go.Shelf

def txt (k : Nat) : ByteArray := ([⟨#[65, 49]⟩, ⟨#[36, 98, 36, 50, 48]⟩, ⟨#[66, 76, 49, 48, 48, 48]⟩, ⟨#[66, 77, 49]⟩, ⟨#[65, 48]⟩, ⟨#[65, 49, 48, 48, 49]⟩, ⟨#[49, 65]⟩, ⟨#[65, 66, 67, 68, 49]⟩] : List ByteArray).getD k ⟨#[]⟩
def xC (k : Nat) : Int := ([0, 1, 63, 0, 0, 0, 0, 0] : List Int).getD k 0
def xR (k : Nat) : Int := ([0, 19, 999, 0, 0, 0, 0, 0] : List Int).getD k 0
def xX (k : Nat) : Bool := ([false, true, false, false, false, false, false, false] : List Bool).getD k false
def xE (k : Nat) : Int := ([0, 0, 0, 14, 3, 14, 3, 3] : List Int).getD k 0
theorem lt8 {P : Nat → Prop} (h0 : P 0) (h1 : P 1) (h2 : P 2) (h3 : P 3) (h4 : P 4) (h5 : P 5) (h6 : P 6) (h7 : P 7) : ∀ k, k < 8 → P k
  | 0, _ => h0 | 1, _ => h1 | 2, _ => h2 | 3, _ => h3 | 4, _ => h4 | 5, _ => h5 | 6, _ => h6 | 7, _ => h7
  | n + 8, h => by omega
theorem par_txt : ∀ k, k < 8 → parV (txt k).data.toList = ((Value.agg #[Value.int .i64 ((xC k)), Value.int .i64 ((xR k)), Value.bool (xX k), Value.bool (xX k)]), xE k) :=
  lt8 (by kernel_rfl) (by kernel_rfl) (by kernel_rfl) (by kernel_rfl) (by kernel_rfl) (by kernel_rfl) (by kernel_rfl) (by kernel_rfl)
theorem txt_size : ∀ k, k < 8 → (txt k).size ≤ 1000 := lt8 (by decide) (by decide) (by decide) (by decide) (by decide) (by decide) (by decide) (by decide)
theorem parse_txt (k : Nat) (hk : k < 8) (W : World) : Calls Tryd.prog 10 #[.string (txt k)] W fun e w' => e = .returned (.tuple #[(Value.agg #[Value.int .i64 ((xC k)), Value.int .i64 ((xR k)), Value.bool (xX k), Value.bool (xX k)]), .int .i64 (xE k)]) ∧ Below W.heap.size W w' := by
  refine (parse_any (txt k) W (txt_size k hk)).mono ?_
  rintro e w' ⟨rfl, hb⟩
  rw [par_txt k hk]
  exact ⟨rfl, hb⟩
def four : List (Int × Int) := [(0, 0), (1, 0), (0, 1), (1, 1)]
theorem cells_four : cellsL 1 1 0 0 = four := by decide +kernel
theorem four_any (W : World) : Calls Tryd.prog 25 #[(Value.agg #[Value.int .i64 (1), Value.int .i64 (1), Value.bool false, Value.bool false]), (Value.agg #[Value.int .i64 (0), Value.int .i64 (0), Value.bool false, Value.bool false]), .int .i64 9] W fun e w' => ∃ vv, e = .returned vv ∧ w'.ownsRow W.heap.size 23 4 vv four.length (rowOf four) ∧ Below W.heap.size W w' := by
  have h := cells_any 1 1 0 0 false false false false 9 (by rw [cells_four]; decide) W
  rw [cells_four] at h
  exact h
theorem own_four (w : World) : (w.alloc (.cells (rowOf four).toArray 23)).ownsRow w.heap.size 23 4 (.slice (some ⟨w.heap.size, 0, none⟩) 4 4) four.length (rowOf four) :=
  ⟨by decide, .inr ⟨w.heap.size, 4, _, rfl, Nat.le_refl _, World.alloc_heap_new w _, by decide, by decide, by rfl, by rfl⟩⟩
theorem mov1 (W : World) : Calls Tryd.prog 27 #[(Value.agg #[Value.int .i64 (0), Value.int .i64 (0), Value.bool true, Value.bool false]), .int .i64 2, .int .i64 3] W fun e w' => e = .returned (.tuple #[(Value.agg #[Value.int .i64 (0), Value.int .i64 (3), Value.bool true, Value.bool false]), .bool true]) ∧ Below W.heap.size W w' := by
  have h := moved_any 0 0 2 3 true false (by decide) (by decide) (by decide) (by decide) W
  rw [show mvV 0 0 2 3 true false = (Value.agg #[Value.int .i64 (0), Value.int .i64 (3), Value.bool true, Value.bool false]) by rfl, show mvOk 0 0 2 3 true false = true by decide +kernel] at h
  exact h
theorem mov2 (W : World) : Calls Tryd.prog 27 #[(Value.agg #[Value.int .i64 (0), Value.int .i64 (0), Value.bool false, Value.bool false]), .int .i64 (-1), .int .i64 0] W fun e w' => e = .returned (.tuple #[(Value.agg #[Value.int .i64 (0), Value.int .i64 (0), Value.bool false, Value.bool false]), .bool false]) ∧ Below W.heap.size W w' := by
  have h := moved_any 0 0 (-1) 0 false false (by decide) (by decide) (by decide) (by decide) W
  rw [show mvV 0 0 (-1) 0 false false = (Value.agg #[Value.int .i64 (0), Value.int .i64 (0), Value.bool false, Value.bool false]) by rfl, show mvOk 0 0 (-1) 0 false false = false by decide +kernel] at h
  exact h
theorem str_eq {S : ByteArray} {l : List UInt8} (h : S.data.toList = l) : S = ⟨l.toArray⟩ := by
  cases S; simp at h; subst h; simp
theorem prt1 (W : World) (T : Tabs W) : Calls Tryd.prog 14 #[(Value.agg #[Value.int .i64 (26), Value.int .i64 (0), Value.bool false, Value.bool false])] W fun e w' => e = .returned (.string { data := #[65, 65, 49] }) ∧ Below W.heap.size W w' := by
  refine (print_any 26 0 false false W T).mono ?_
  rintro e w' ⟨S, rfl, hS, hb⟩
  have e1 : prtV 26 0 false false = [65, 65, 49] := by
    unfold prtV
    rw [if_pos (by decide), show ((0 : Int) + 1).toNat = 1 by rfl, Lib.decDigits_one (by decide)]; decide
  rw [str_eq (hS.trans e1)]
  exact ⟨rfl, hb⟩
theorem prt2 (W : World) (T : Tabs W) : Calls Tryd.prog 14 #[(Value.agg #[Value.int .i64 (64), Value.int .i64 (0), Value.bool false, Value.bool false])] W fun e w' => e = .returned (.string { data := #[] }) ∧ Below W.heap.size W w' := by
  refine (print_any 64 0 false false W T).mono ?_
  rintro e w' ⟨S, rfl, hS, hb⟩
  rw [str_eq (hS.trans (show prtV 64 0 false false = [] by decide +kernel))]
  exact ⟨rfl, hb⟩
theorem ind1 (W : World) : Calls Tryd.prog 16 #[(Value.agg #[Value.int .i64 (1), Value.int .i64 (1), Value.bool false, Value.bool false])] W fun e w' => e = .returned (.int .i64 65) ∧ Below W.heap.size W w' := by
  have h := index_any 1 1 false false W
  rw [show idx 1 1 = 65 by decide] at h; exact h
theorem at1 (W : World) : Calls Tryd.prog 18 #[.int .i64 65] W fun e w' => e = .returned (Value.agg #[Value.int .i64 (1), Value.int .i64 (1), Value.bool false, Value.bool false]) ∧ Below W.heap.size W w' := by
  have h := at_any 65 (by decide) (by decide) W
  rw [show atC 65 = 1 by decide, show atR 65 = 1 by decide] at h; exact h
theorem at2 (W : World) : Calls Tryd.prog 18 #[.int .i64 (-1)] W fun e w' => e = .returned (Value.agg #[Value.int .i64 (-1), Value.int .i64 (-1), Value.bool false, Value.bool false]) ∧ Below W.heap.size W w' := by
  have h := at_any (-1) (by decide) (by decide) W
  rw [show atC (-1) = -1 by decide, show atR (-1) = -1 by decide] at h; exact h
theorem area1 (W : World) : Calls Tryd.prog 20 #[(Value.agg #[Value.int .i64 (1), Value.int .i64 (2), Value.bool false, Value.bool false]), (Value.agg #[Value.int .i64 (0), Value.int .i64 (0), Value.bool false, Value.bool false])] W fun e w' => e = .returned (.int .i64 6) ∧ Below W.heap.size W w' := by
  have h := area_any 1 2 0 0 false false false false W
  rw [show areaV 1 2 0 0 = 6 by decide] at h; exact h
end Go.Proofs.YtikcggbkkgipoaaDoor
