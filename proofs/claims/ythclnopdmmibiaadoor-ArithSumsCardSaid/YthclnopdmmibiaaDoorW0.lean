/-
  The walks of package wide (stage 2): what each of its functions answers, for every argument.
-/
import Derived.Test.YthclnopdmmibiaaDoorRows
import Derived.Test.YthclnopdmmibiaaDoorPlain
import Derived.Test.YthclnopdmmibiaaDoorShelf
import Derived.Shelf.Spec.BitsCarry
import Derived.WalkKit
import Derived.WalkSpells
import Derived.WalkLawsBesides
import Derived.Lib.Hide
import Derived.BigRegion
import Derived.BigQuiet
import Derived.RegionTactic
import Derived.Deep.QuietTactic
import Derived.Deep.RegionHeld3
import Derived.Laws.BitsAllLaws
namespace Go.Proofs.YthclnopdmmibiaaDoor
open Go.RowKit Go.Shelf

theorem bcell {W w1 : World} (hb : Below W.heap.size W w1) : (∀ b o, b < W.heap.size → w1.cell? ⟨b, o, none⟩ = W.cell? ⟨b, o, none⟩) ∧ (∀ b o, b < W.heap.size → w1.frozen? ⟨b, o, none⟩ = W.frozen? ⟨b, o, none⟩) :=
  ⟨fun b o h => hb.cell (p := ⟨b, o, none⟩) h, fun b o h => hb.frozen (p := ⟨b, o, none⟩) h⟩

/-- A word of 64 bits. -/
def Word (x : Int) : Prop := 0 ≤ x ∧ x < 18446744073709551616
/-- The number of two words. -/
def val (h l : Int) : Int := h * 18446744073709551616 + l

def ren25 : Go.Shelf.Ren := ⟨fun | 25 => 50 | n => n, fun | 22 => 22 | n => n, fun n => n⟩
def ren26 : Go.Shelf.Ren := ⟨fun | 26 => 51 | n => n, fun | 22 => 22 | n => n, fun n => n⟩
theorem lays25 : Lays7.n25 Tryd.prog ren25 := { mixed := by kernel_rfl, f25 := Tryd.func50.trans (congrArg some (by kernel_rfl)), t22 := Tryd.underlying22, a22 := Tryd.isAgg22, z22 := Tryd.sizeOf22, v22 := Tryd.zeroValue22, i22 := by kernel_rfl }
theorem lays26 : Lays7.n26 Tryd.prog ren26 := { mixed := by kernel_rfl, f26 := Tryd.func51.trans (congrArg some (by kernel_rfl)), t22 := Tryd.underlying22, a22 := Tryd.isAgg22, z22 := Tryd.sizeOf22, v22 := Tryd.zeroValue22, i22 := by kernel_rfl }

/-- A borrow, under a name. -/
def bor (x y : Int) : Int := if x < y then 1 else 0
theorem bor_bd (x y : Int) : 0 ≤ bor x y ∧ bor x y ≤ 1 := by unfold bor; split <;> decide

theorem add64 (x y c : Int) (hx : 0 ≤ x) (hy : 0 ≤ y) (hc0 : 0 ≤ c) (hc : c ≤ 1) (w : World) : (callFunc 50 #[.int .u64 x, .int .u64 y, .int .u64 c]).run Tryd.prog w =
    .ok (.value (.tuple #[.int .u64 ((x + y + c) % 18446744073709551616), .int .u64 ((x + y + c) / 18446744073709551616)])) w := by
  obtain ⟨x, rfl⟩ := Int.eq_ofNat_of_zero_le hx
  obtain ⟨y, rfl⟩ := Int.eq_ofNat_of_zero_le hy
  obtain ⟨c, rfl⟩ := Int.eq_ofNat_of_zero_le hc0
  refine (Any7.bits_Add64 lays25 x y c (by omega) w).trans ?_
  congr 5 <;> omega
theorem sub64 (x y b : Int) (hx : 0 ≤ x) (hy : 0 ≤ y) (hy' : y < 18446744073709551616) (hb0 : 0 ≤ b) (hb : b ≤ 1) (w : World) : (callFunc 51 #[.int .u64 x, .int .u64 y, .int .u64 b]).run Tryd.prog w =
    .ok (.value (.tuple #[.int .u64 ((x - y - b) % 18446744073709551616), .int .u64 (bor x (y + b))])) w := by
  obtain ⟨x, rfl⟩ := Int.eq_ofNat_of_zero_le hx
  obtain ⟨y, rfl⟩ := Int.eq_ofNat_of_zero_le hy
  obtain ⟨b, rfl⟩ := Int.eq_ofNat_of_zero_le hb0
  have e1 : (((x + 18446744073709551616 - y - b) % 18446744073709551616 : Nat) : Int) = ((x : Int) - y - b) % 18446744073709551616 := by omega
  have e2 : ((if x < y + b then 1 else 0 : Nat) : Int) = bor x (y + b) := by unfold bor; split <;> split <;> omega
  rw [← e1, ← e2]
  exact Any7.bits_Sub64 lays26 x y b (by omega) w
theorem add64_0 (x y : Int) (hx : 0 ≤ x) (hy : 0 ≤ y) (w : World) : (callFunc 50 #[.int .u64 x, .int .u64 y, .int .u64 0]).run Tryd.prog w =
    .ok (.value (.tuple #[.int .u64 ((x + y) % 18446744073709551616), .int .u64 ((x + y) / 18446744073709551616)])) w := by
  simpa using add64 x y 0 hx hy (Int.le_refl 0) (by decide) w
theorem sub64_0 (x y : Int) (hx : 0 ≤ x) (hy : 0 ≤ y) (hy' : y < 18446744073709551616) (w : World) : (callFunc 51 #[.int .u64 x, .int .u64 y, .int .u64 0]).run Tryd.prog w =
    .ok (.value (.tuple #[.int .u64 ((x - y) % 18446744073709551616), .int .u64 (bor x y)])) w := by
  simpa using sub64 x y 0 hx hy hy' (Int.le_refl 0) (by decide) w

/-- What Add answers. -/
def AddPost (s : Int) (w : World) (e : Ending) (w' : World) : Prop :=
  ∃ h l : Int, ∃ o : Bool, e = .returned (.tuple #[.agg #[.int .u64 h, .int .u64 l], .bool o]) ∧ Word h ∧ Word l ∧
    ((o = true ∧ val h l + 340282366920938463463374607431768211456 = s) ∨ (o = false ∧ val h l = s)) ∧ Below w.heap.size w w'

theorem add_mk (ah al bh bl : Int) (h1 : Word ah) (h2 : Word al) (h3 : Word bh) (h4 : Word bl) (w w' : World) (hb : Below w.heap.size w w') :
    AddPost (val ah al + val bh bl) w (.returned (.tuple #[.agg #[.int .u64 ((ah + bh + (al + bl) / 18446744073709551616) % 18446744073709551616), .int .u64 ((al + bl) % 18446744073709551616)], .bool ((ah + bh + (al + bl) / 18446744073709551616) / 18446744073709551616 != 0)])) w' := by
  unfold Word at *
  refine ⟨_, _, _, rfl, ⟨by omega, by omega⟩, ⟨by omega, by omega⟩, ?_, hb⟩
  unfold val
  by_cases h : (ah + bh + (al + bl) / 18446744073709551616) / 18446744073709551616 = 0
  · exact .inr ⟨by simp [h], by omega⟩
  · exact .inl ⟨by simp [h], by omega⟩

set_option maxHeartbeats 400000 in
theorem add_any (ah al bh bl : Int) (h1 : Word ah) (h2 : Word al) (h3 : Word bh) (h4 : Word bl) (w : World) :
    Calls Tryd.prog 34 #[.agg #[.int .u64 ah, .int .u64 al], .agg #[.int .u64 bh, .int .u64 bl]] w (AddPost (val ah al + val bh bl) w) := by
  have hm := add_mk ah al bh bl h1 h2 h3 h4
  obtain ⟨a1, a2⟩ := h1; obtain ⟨b1, b2⟩ := h2; obtain ⟨c1, c2⟩ := h3; obtain ⟨d1, d2⟩ := h4
  have k0 : 0 ≤ (al + bl) / 18446744073709551616 := by omega
  have k1 : (al + bl) / 18446744073709551616 ≤ 1 := by omega
  have Hm := Lib.hid hm; clear hm
  go_enter Tryd.func34, Tryd.ntmps34
  go_wp2_with (first | simp only [add64_0 al bl b1 d1] | simp only [add64 ah bh _ a1 c1 k0 k1])
  simp [bodyPost, results, Tryd.results34, go_sem]
  exact Hm.out _ _ ((((Below.refl _ _).alloc (Nat.le_refl _) _).alloc (by simp) _).alloc (by simp; omega) _)

/-- What Sub answers. -/
def SubPost (s : Int) (w : World) (e : Ending) (w' : World) : Prop :=
  ∃ h l : Int, ∃ o : Bool, e = .returned (.tuple #[.agg #[.int .u64 h, .int .u64 l], .bool o]) ∧ Word h ∧ Word l ∧
    ((o = true ∧ val h l = s + 340282366920938463463374607431768211456) ∨ (o = false ∧ val h l = s)) ∧ Below w.heap.size w w'

theorem sub_mk (ah al bh bl : Int) (h1 : Word ah) (h2 : Word al) (h3 : Word bh) (h4 : Word bl) (w w' : World) (hb : Below w.heap.size w w') :
    SubPost (val ah al - val bh bl) w (.returned (.tuple #[.agg #[.int .u64 ((ah - bh - bor al bl) % 18446744073709551616), .int .u64 ((al - bl) % 18446744073709551616)], .bool (bor ah (bh + bor al bl) != 0)])) w' := by
  unfold Word at *
  refine ⟨_, _, _, rfl, ⟨by omega, by omega⟩, ⟨by omega, by omega⟩, ?_, hb⟩
  unfold val bor
  by_cases h : al < bl
  · by_cases h' : ah < bh + 1
    · exact .inl ⟨by simp [h, h'], by simp [h]; omega⟩
    · exact .inr ⟨by simp [h, h'], by simp [h]; omega⟩
  · by_cases h' : ah < bh
    · exact .inl ⟨by simp [h, h'], by simp [h]; omega⟩
    · exact .inr ⟨by simp [h, h'], by simp [h]; omega⟩

set_option maxHeartbeats 400000 in
theorem sub_any (ah al bh bl : Int) (h1 : Word ah) (h2 : Word al) (h3 : Word bh) (h4 : Word bl) (w : World) :
    Calls Tryd.prog 35 #[.agg #[.int .u64 ah, .int .u64 al], .agg #[.int .u64 bh, .int .u64 bl]] w (SubPost (val ah al - val bh bl) w) := by
  have hm := sub_mk ah al bh bl h1 h2 h3 h4
  obtain ⟨a1, a2⟩ := h1; obtain ⟨b1, b2⟩ := h2; obtain ⟨c1, c2⟩ := h3; obtain ⟨d1, d2⟩ := h4
  obtain ⟨k0, k1⟩ := bor_bd al bl
  have Hm := Lib.hid hm; clear hm
  go_enter Tryd.func35, Tryd.ntmps35
  go_wp2_with (first | simp only [sub64_0 al bl b1 d1 d2] | simp only [sub64 ah bh _ a1 c1 c2 k0 k1])
  simp [bodyPost, results, Tryd.results35, go_sem]
  exact Hm.out _ _ ((((Below.refl _ _).alloc (Nat.le_refl _) _).alloc (by simp) _).alloc (by simp; omega) _)

theorem mul64 (x y : Int) (hx : Word x) (hy : Word y) (w : World) :
    Calls Tryd.prog 46 #[.int .u64 x, .int .u64 y] w fun e w' => e = .returned (.tuple #[.int .u64 (x * y / 18446744073709551616), .int .u64 (x * y % 18446744073709551616)]) ∧ w' = w := by
  obtain ⟨x, rfl⟩ := Int.eq_ofNat_of_zero_le hx.1
  obtain ⟨y, rfl⟩ := Int.eq_ofNat_of_zero_le hy.1
  refine (Tryd.bits_Mul64 x y (by have := hx.2; omega) (by have := hy.2; omega) w).mono ?_
  rintro e w' ⟨rfl, rfl⟩
  refine ⟨?_, rfl⟩
  congr 4 <;> (push_cast; rfl)

/-- What Mul answers. -/
def U128Post (s : Int) (w : World) (e : Ending) (w' : World) : Prop :=
  ∃ h l : Int, e = .returned (.agg #[.int .u64 h, .int .u64 l]) ∧ Word h ∧ Word l ∧ val h l = s ∧ Below w.heap.size w w'
theorem mul_bd (x y : Int) (h1 : Word x) (h2 : Word y) : 0 ≤ x * y ∧ x * y ≤ 18446744073709551615 * 18446744073709551615 := by
  unfold Word at *
  exact ⟨Int.mul_nonneg h1.1 h2.1, Int.mul_le_mul (by omega) (by omega) (by omega) (by omega)⟩
theorem mul_mk (x y : Int) (h1 : Word x) (h2 : Word y) (w w' : World) (hb : Below w.heap.size w w') :
    U128Post (x * y) w (.returned (.agg #[.int .u64 (x * y / 18446744073709551616), .int .u64 (x * y % 18446744073709551616)])) w' := by
  have h := mul_bd x y h1 h2
  generalize x * y = p at *
  refine ⟨_, _, rfl, ⟨by omega, by omega⟩, ⟨by omega, by omega⟩, by unfold val; omega, hb⟩
set_option maxHeartbeats 400000 in
theorem mul_any (x y : Int) (h1 : Word x) (h2 : Word y) (w : World) :
    Calls Tryd.prog 27 #[.int .u64 x, .int .u64 y] w (U128Post (x * y) w) := by
  have Hm := Lib.hid (mul_mk x y h1 h2)
  have H1 := Lib.hid h1; have H2 := Lib.hid h2; clear h1 h2
  go_enter Tryd.func27, Tryd.ntmps27
  go_wp2_with (go_at_call 46; refine (mul64 x y H1.out H2.out _).mono ?_; rintro e w' ⟨rfl, rfl⟩)
  simp [bodyPost, results, Tryd.results27, go_sem]
  exact Hm.out _ _ ((Below.refl _ _).alloc (Nat.le_refl _) _)

end Go.Proofs.YthclnopdmmibiaaDoor
