/-
  The walks of package wide (stage 2): what each of its functions answers, for every argument.
-/
import Derived.Test.YtomeidbigofnaaaRows
import Derived.Test.YtomeidbigofnaaaPlain
import Derived.Test.YtomeidbigofnaaaShelf
import Derived.Shelf.Spec.BitsCarry
import Derived.WalkKit
import Derived.WalkSpells
import Derived.WalkLawsBesides
import Derived.Lib.Hide
import Derived.BigRegion
import Derived.BigQuiet
import Derived.RegionTactic
import Derived.Deep.QuietTactic
import Derived.Deep.RegionHeld3
import Derived.Laws.BitsAllLaws
namespace Go.Proofs.Ytomeidbigofnaaa
open Go.RowKit Go.Shelf

theorem bcell {W w1 : World} (hb : Below W.heap.size W w1) : (∀ b o, b < W.heap.size → w1.cell? ⟨b, o, none⟩ = W.cell? ⟨b, o, none⟩) ∧ (∀ b o, b < W.heap.size → w1.frozen? ⟨b, o, none⟩ = W.frozen? ⟨b, o, none⟩) :=
  ⟨fun b o h => hb.cell (p := ⟨b, o, none⟩) h, fun b o h => hb.frozen (p := ⟨b, o, none⟩) h⟩

/-- A word of 64 bits. -/
def Word (x : Int) : Prop := 0 ≤ x ∧ x < 18446744073709551616
/-- The number of two words. -/
def val (h l : Int) : Int := h * 18446744073709551616 + l

/-- A borrow, under a name. -/
def bor (x y : Int) : Int := if x < y then 1 else 0
theorem bor_bd (x y : Int) : 0 ≤ bor x y ∧ bor x y ≤ 1 := by unfold bor; split <;> decide

/-- What Add answers. -/
def AddPost (s : Int) (w : World) (e : Ending) (w' : World) : Prop :=
  ∃ h l : Int, ∃ o : Bool, e = .returned (.tuple #[.agg #[.int .u64 h, .int .u64 l], .bool o]) ∧ Word h ∧ Word l ∧
    ((o = true ∧ val h l + 340282366920938463463374607431768211456 = s) ∨ (o = false ∧ val h l = s)) ∧ Below w.heap.size w w'

theorem add_mk (ah al bh bl : Int) (h1 : Word ah) (h2 : Word al) (h3 : Word bh) (h4 : Word bl) (w w' : World) (hb : Below w.heap.size w w') :
    AddPost (val ah al + val bh bl) w (.returned (.tuple #[.agg #[.int .u64 ((ah + bh + (al + bl) / 18446744073709551616) % 18446744073709551616), .int .u64 ((al + bl) % 18446744073709551616)], .bool ((ah + bh + (al + bl) / 18446744073709551616) / 18446744073709551616 != 0)])) w' := by
  unfold Word at *
  refine ⟨_, _, _, rfl, ⟨by omega, by omega⟩, ⟨by omega, by omega⟩, ?_, hb⟩
  unfold val
  by_cases h : (ah + bh + (al + bl) / 18446744073709551616) / 18446744073709551616 = 0
  · exact .inr ⟨by simp [h], by omega⟩
  · exact .inl ⟨by simp [h], by omega⟩

/-- What Sub answers. -/
def SubPost (s : Int) (w : World) (e : Ending) (w' : World) : Prop :=
  ∃ h l : Int, ∃ o : Bool, e = .returned (.tuple #[.agg #[.int .u64 h, .int .u64 l], .bool o]) ∧ Word h ∧ Word l ∧
    ((o = true ∧ val h l = s + 340282366920938463463374607431768211456) ∨ (o = false ∧ val h l = s)) ∧ Below w.heap.size w w'

theorem sub_mk (ah al bh bl : Int) (h1 : Word ah) (h2 : Word al) (h3 : Word bh) (h4 : Word bl) (w w' : World) (hb : Below w.heap.size w w') :
    SubPost (val ah al - val bh bl) w (.returned (.tuple #[.agg #[.int .u64 ((ah - bh - bor al bl) % 18446744073709551616), .int .u64 ((al - bl) % 18446744073709551616)], .bool (bor ah (bh + bor al bl) != 0)])) w' := by
  unfold Word at *
  refine ⟨_, _, _, rfl, ⟨by omega, by omega⟩, ⟨by omega, by omega⟩, ?_, hb⟩
  unfold val bor
  by_cases h : al < bl
  · by_cases h' : ah < bh + 1
    · exact .inl ⟨by simp [h, h'], by simp [h]; omega⟩
    · exact .inr ⟨by simp [h, h'], by simp [h]; omega⟩
  · by_cases h' : ah < bh
    · exact .inl ⟨by simp [h, h'], by simp [h]; omega⟩
    · exact .inr ⟨by simp [h, h'], by simp [h]; omega⟩

/-- What Mul answers. -/
def U128Post (s : Int) (w : World) (e : Ending) (w' : World) : Prop :=
  ∃ h l : Int, e = .returned (.agg #[.int .u64 h, .int .u64 l]) ∧ Word h ∧ Word l ∧ val h l = s ∧ Below w.heap.size w w'
theorem mul_bd (x y : Int) (h1 : Word x) (h2 : Word y) : 0 ≤ x * y ∧ x * y ≤ 18446744073709551615 * 18446744073709551615 := by
  unfold Word at *
  exact ⟨Int.mul_nonneg h1.1 h2.1, Int.mul_le_mul (by omega) (by omega) (by omega) (by omega)⟩
theorem mul_mk (x y : Int) (h1 : Word x) (h2 : Word y) (w w' : World) (hb : Below w.heap.size w w') :
    U128Post (x * y) w (.returned (.agg #[.int .u64 (x * y / 18446744073709551616), .int .u64 (x * y % 18446744073709551616)])) w' := by
  have h := mul_bd x y h1 h2
  generalize x * y = p at *
  refine ⟨_, _, rfl, ⟨by omega, by omega⟩, ⟨by omega, by omega⟩, by unfold val; omega, hb⟩
end Go.Proofs.Ytomeidbigofnaaa
