import Derived.Test.YtnefacnceemklaaDoorRows
import Derived.Test.YtnefacnceemklaaDoorPlain
import Derived.Test.YtnefacnceemklaaDoorShelf
import Derived.Shelf.Spec.BitsCarry
import Derived.WalkKit
import Derived.WalkSpells
import Derived.WalkLawsBesides
import Derived.Lib.Hide
import Derived.BigRegion
import Derived.BigQuiet
import Derived.RegionTactic
import Derived.Deep.QuietTactic
import Derived.Deep.RegionHeld3
import Derived.Laws.BitsAllLaws
import Derived.Deep.DeepCutAuto
import Derived.Deep.CutBlock
/-
  The walks of package wide (stage 2): what each of its functions answers, for every argument.
-/
namespace Go.Proofs.YtnefacnceemklaaDoor
open Go.RowKit Go.Shelf

theorem bcell {W w1 : World} (hb : Below W.heap.size W w1) : (∀ b o, b < W.heap.size → w1.cell? ⟨b, o, none⟩ = W.cell? ⟨b, o, none⟩) ∧ (∀ b o, b < W.heap.size → w1.frozen? ⟨b, o, none⟩ = W.frozen? ⟨b, o, none⟩) :=
  ⟨fun b o h => hb.cell (p := ⟨b, o, none⟩) h, fun b o h => hb.frozen (p := ⟨b, o, none⟩) h⟩

/-- A word of 64 bits. -/
def Word (x : Int) : Prop := 0 ≤ x ∧ x < 18446744073709551616
/-- The number of two words. -/
def val (h l : Int) : Int := h * 18446744073709551616 + l

def ren25 : Go.Shelf.Ren := ⟨fun | 25 => 114 | n => n, fun | 22 => 22 | n => n, fun n => n⟩
def ren26 : Go.Shelf.Ren := ⟨fun | 26 => 115 | n => n, fun | 22 => 22 | n => n, fun n => n⟩
theorem lays25 : Lays7.n25 Tryd.prog ren25 := { mixed := by kernel_rfl, f25 := Tryd.func114.trans (congrArg some (by kernel_rfl)), t22 := Tryd.underlying22, a22 := Tryd.isAgg22, z22 := Tryd.sizeOf22, v22 := Tryd.zeroValue22, i22 := by kernel_rfl }
theorem lays26 : Lays7.n26 Tryd.prog ren26 := { mixed := by kernel_rfl, f26 := Tryd.func115.trans (congrArg some (by kernel_rfl)), t22 := Tryd.underlying22, a22 := Tryd.isAgg22, z22 := Tryd.sizeOf22, v22 := Tryd.zeroValue22, i22 := by kernel_rfl }

/-- A borrow, under a name. -/
def bor (x y : Int) : Int := if x < y then 1 else 0
theorem bor_bd (x y : Int) : 0 ≤ bor x y ∧ bor x y ≤ 1 := by unfold bor; split <;> decide

theorem add64 (x y c : Int) (hx : 0 ≤ x) (hy : 0 ≤ y) (hc0 : 0 ≤ c) (hc : c ≤ 1) (w : World) : (callFunc 114 #[.int .u64 x, .int .u64 y, .int .u64 c]).run Tryd.prog w =
    .ok (.value (.tuple #[.int .u64 ((x + y + c) % 18446744073709551616), .int .u64 ((x + y + c) / 18446744073709551616)])) w := by
  obtain ⟨x, rfl⟩ := Int.eq_ofNat_of_zero_le hx
  obtain ⟨y, rfl⟩ := Int.eq_ofNat_of_zero_le hy
  obtain ⟨c, rfl⟩ := Int.eq_ofNat_of_zero_le hc0
  refine (Any7.bits_Add64 lays25 x y c (by omega) w).trans ?_
  congr 5 <;> omega
theorem sub64 (x y b : Int) (hx : 0 ≤ x) (hy : 0 ≤ y) (hy' : y < 18446744073709551616) (hb0 : 0 ≤ b) (hb : b ≤ 1) (w : World) : (callFunc 115 #[.int .u64 x, .int .u64 y, .int .u64 b]).run Tryd.prog w =
    .ok (.value (.tuple #[.int .u64 ((x - y - b) % 18446744073709551616), .int .u64 (bor x (y + b))])) w := by
  obtain ⟨x, rfl⟩ := Int.eq_ofNat_of_zero_le hx
  obtain ⟨y, rfl⟩ := Int.eq_ofNat_of_zero_le hy
  obtain ⟨b, rfl⟩ := Int.eq_ofNat_of_zero_le hb0
  have e1 : (((x + 18446744073709551616 - y - b) % 18446744073709551616 : Nat) : Int) = ((x : Int) - y - b) % 18446744073709551616 := by omega
  have e2 : ((if x < y + b then 1 else 0 : Nat) : Int) = bor x (y + b) := by unfold bor; split <;> split <;> omega
  rw [← e1, ← e2]
  exact Any7.bits_Sub64 lays26 x y b (by omega) w
theorem add64_0 (x y : Int) (hx : 0 ≤ x) (hy : 0 ≤ y) (w : World) : (callFunc 114 #[.int .u64 x, .int .u64 y, .int .u64 0]).run Tryd.prog w =
    .ok (.value (.tuple #[.int .u64 ((x + y) % 18446744073709551616), .int .u64 ((x + y) / 18446744073709551616)])) w := by
  simpa using add64 x y 0 hx hy (Int.le_refl 0) (by decide) w
theorem sub64_0 (x y : Int) (hx : 0 ≤ x) (hy : 0 ≤ y) (hy' : y < 18446744073709551616) (w : World) : (callFunc 115 #[.int .u64 x, .int .u64 y, .int .u64 0]).run Tryd.prog w =
    .ok (.value (.tuple #[.int .u64 ((x - y) % 18446744073709551616), .int .u64 (bor x y)])) w := by
  simpa using sub64 x y 0 hx hy hy' (Int.le_refl 0) (by decide) w

/-- What Add answers. -/
def AddPost (s : Int) (w : World) (e : Ending) (w' : World) : Prop :=
  ∃ h l : Int, ∃ o : Bool, e = .returned (.tuple #[.agg #[.int .u64 h, .int .u64 l], .bool o]) ∧ Word h ∧ Word l ∧
    ((o = true ∧ val h l + 340282366920938463463374607431768211456 = s) ∨ (o = false ∧ val h l = s)) ∧ Below w.heap.size w w'

theorem add_mk (ah al bh bl : Int) (h1 : Word ah) (h2 : Word al) (h3 : Word bh) (h4 : Word bl) (w w' : World) (hb : Below w.heap.size w w') :
    AddPost (val ah al + val bh bl) w (.returned (.tuple #[.agg #[.int .u64 ((ah + bh + (al + bl) / 18446744073709551616) % 18446744073709551616), .int .u64 ((al + bl) % 18446744073709551616)], .bool ((ah + bh + (al + bl) / 18446744073709551616) / 18446744073709551616 != 0)])) w' := by
  unfold Word at *
  refine ⟨_, _, _, rfl, ⟨by omega, by omega⟩, ⟨by omega, by omega⟩, ?_, hb⟩
  unfold val
  by_cases h : (ah + bh + (al + bl) / 18446744073709551616) / 18446744073709551616 = 0
  · exact .inr ⟨by simp [h], by omega⟩
  · exact .inl ⟨by simp [h], by omega⟩

set_option maxHeartbeats 400000 in
theorem add_any (ah al bh bl : Int) (h1 : Word ah) (h2 : Word al) (h3 : Word bh) (h4 : Word bl) (w : World) :
    Calls Tryd.prog 94 #[.agg #[.int .u64 ah, .int .u64 al], .agg #[.int .u64 bh, .int .u64 bl]] w (AddPost (val ah al + val bh bl) w) := by
  have hm := add_mk ah al bh bl h1 h2 h3 h4
  obtain ⟨a1, a2⟩ := h1; obtain ⟨b1, b2⟩ := h2; obtain ⟨c1, c2⟩ := h3; obtain ⟨d1, d2⟩ := h4
  have k0 : 0 ≤ (al + bl) / 18446744073709551616 := by omega
  have k1 : (al + bl) / 18446744073709551616 ≤ 1 := by omega
  have Hm := Lib.hid hm; clear hm
  go_enter Tryd.func94, Tryd.ntmps94
  go_wp2_with (first | simp only [add64_0 al bl b1 d1] | simp only [add64 ah bh _ a1 c1 k0 k1])
  simp [bodyPost, results, Tryd.results94, go_sem]
  exact Hm.out _ _ ((((Below.refl _ _).alloc (Nat.le_refl _) _).alloc (by simp) _).alloc (by simp; omega) _)

/-- What Sub answers. -/
def SubPost (s : Int) (w : World) (e : Ending) (w' : World) : Prop :=
  ∃ h l : Int, ∃ o : Bool, e = .returned (.tuple #[.agg #[.int .u64 h, .int .u64 l], .bool o]) ∧ Word h ∧ Word l ∧
    ((o = true ∧ val h l = s + 340282366920938463463374607431768211456) ∨ (o = false ∧ val h l = s)) ∧ Below w.heap.size w w'

theorem sub_mk (ah al bh bl : Int) (h1 : Word ah) (h2 : Word al) (h3 : Word bh) (h4 : Word bl) (w w' : World) (hb : Below w.heap.size w w') :
    SubPost (val ah al - val bh bl) w (.returned (.tuple #[.agg #[.int .u64 ((ah - bh - bor al bl) % 18446744073709551616), .int .u64 ((al - bl) % 18446744073709551616)], .bool (bor ah (bh + bor al bl) != 0)])) w' := by
  unfold Word at *
  refine ⟨_, _, _, rfl, ⟨by omega, by omega⟩, ⟨by omega, by omega⟩, ?_, hb⟩
  unfold val bor
  by_cases h : al < bl
  · by_cases h' : ah < bh + 1
    · exact .inl ⟨by simp [h, h'], by simp [h]; omega⟩
    · exact .inr ⟨by simp [h, h'], by simp [h]; omega⟩
  · by_cases h' : ah < bh
    · exact .inl ⟨by simp [h, h'], by simp [h]; omega⟩
    · exact .inr ⟨by simp [h, h'], by simp [h]; omega⟩

set_option maxHeartbeats 400000 in
theorem sub_any (ah al bh bl : Int) (h1 : Word ah) (h2 : Word al) (h3 : Word bh) (h4 : Word bl) (w : World) :
    Calls Tryd.prog 95 #[.agg #[.int .u64 ah, .int .u64 al], .agg #[.int .u64 bh, .int .u64 bl]] w (SubPost (val ah al - val bh bl) w) := by
  have hm := sub_mk ah al bh bl h1 h2 h3 h4
  obtain ⟨a1, a2⟩ := h1; obtain ⟨b1, b2⟩ := h2; obtain ⟨c1, c2⟩ := h3; obtain ⟨d1, d2⟩ := h4
  obtain ⟨k0, k1⟩ := bor_bd al bl
  have Hm := Lib.hid hm; clear hm
  go_enter Tryd.func95, Tryd.ntmps95
  go_wp2_with (first | simp only [sub64_0 al bl b1 d1 d2] | simp only [sub64 ah bh _ a1 c1 c2 k0 k1])
  simp [bodyPost, results, Tryd.results95, go_sem]
  exact Hm.out _ _ ((((Below.refl _ _).alloc (Nat.le_refl _) _).alloc (by simp) _).alloc (by simp; omega) _)

theorem mul64 (x y : Int) (hx : Word x) (hy : Word y) (w : World) :
    Calls Tryd.prog 96 #[.int .u64 x, .int .u64 y] w fun e w' => e = .returned (.tuple #[.int .u64 (x * y / 18446744073709551616), .int .u64 (x * y % 18446744073709551616)]) ∧ w' = w := by
  obtain ⟨x, rfl⟩ := Int.eq_ofNat_of_zero_le hx.1
  obtain ⟨y, rfl⟩ := Int.eq_ofNat_of_zero_le hy.1
  refine (Tryd.bits_Mul64 x y (by have := hx.2; omega) (by have := hy.2; omega) w).mono ?_
  rintro e w' ⟨rfl, rfl⟩
  refine ⟨?_, rfl⟩
  congr 4 <;> (push_cast; rfl)

/-- What Mul answers. -/
def U128Post (s : Int) (w : World) (e : Ending) (w' : World) : Prop :=
  ∃ h l : Int, e = .returned (.agg #[.int .u64 h, .int .u64 l]) ∧ Word h ∧ Word l ∧ val h l = s ∧ Below w.heap.size w w'
theorem mul_bd (x y : Int) (h1 : Word x) (h2 : Word y) : 0 ≤ x * y ∧ x * y ≤ 18446744073709551615 * 18446744073709551615 := by
  unfold Word at *
  exact ⟨Int.mul_nonneg h1.1 h2.1, Int.mul_le_mul (by omega) (by omega) (by omega) (by omega)⟩
theorem mul_mk (x y : Int) (h1 : Word x) (h2 : Word y) (w w' : World) (hb : Below w.heap.size w w') :
    U128Post (x * y) w (.returned (.agg #[.int .u64 (x * y / 18446744073709551616), .int .u64 (x * y % 18446744073709551616)])) w' := by
  have h := mul_bd x y h1 h2
  generalize x * y = p at *
  refine ⟨_, _, rfl, ⟨by omega, by omega⟩, ⟨by omega, by omega⟩, by unfold val; omega, hb⟩
set_option maxHeartbeats 400000 in
theorem mul_any (x y : Int) (h1 : Word x) (h2 : Word y) (w : World) :
    Calls Tryd.prog 61 #[.int .u64 x, .int .u64 y] w (U128Post (x * y) w) := by
  have Hm := Lib.hid (mul_mk x y h1 h2)
  have H1 := Lib.hid h1; have H2 := Lib.hid h2; clear h1 h2
  go_enter Tryd.func61, Tryd.ntmps61
  go_wp2_with (go_at_call 96; refine (mul64 x y H1.out H2.out _).mono ?_; rintro e w' ⟨rfl, rfl⟩)
  simp [bodyPost, results, Tryd.results61, go_sem]
  exact Hm.out _ _ ((Below.refl _ _).alloc (Nat.le_refl _) _)

end Go.Proofs.YtnefacnceemklaaDoor

/-
  The walks of package wide: Len, Cmp, Shl, Shr.
-/
namespace Go.Proofs.YtnefacnceemklaaDoor
open Go.RowKit Go.Shelf

theorem bitLenAux_bd : ∀ (f x : Nat), x < 2 ^ f → x < 2 ^ Lib.bitLenAux f x ∧ (x ≠ 0 → 2 ^ Lib.bitLenAux f x ≤ 2 * x) ∧ Lib.bitLenAux f x ≤ f
  | 0, x, h => by
    have : x = 0 := by simpa using h
    subst this; simp [Lib.bitLenAux]
  | f + 1, x, h => by
    unfold Lib.bitLenAux
    by_cases hx : x = 0
    · subst hx; simp
    · rw [if_neg hx]
      obtain ⟨h1, h2, h3⟩ := bitLenAux_bd f (x / 2) (by rw [Nat.pow_succ] at h; omega)
      rw [Nat.add_comm 1, Nat.pow_succ]
      refine ⟨by omega, fun _ => ?_, by omega⟩
      by_cases h0 : x / 2 = 0
      · have : x = 1 := by omega
        subst this
        have e : Lib.bitLenAux f (1 / 2) = 0 := by cases f <;> simp [Lib.bitLenAux]
        rw [e]; decide
      · have := h2 h0; omega
theorem bitLen_bd (x : Nat) (h : x < 18446744073709551616) : x < 2 ^ Lib.bitLen x ∧ (x ≠ 0 → 2 ^ Lib.bitLen x ≤ 2 * x) ∧ Lib.bitLen x ≤ 64 := bitLenAux_bd 64 x h

/-- What Len answers. -/
def LenPost (v : Int) (w : World) (e : Ending) (w' : World) : Prop :=
  ∃ n : Nat, e = .returned (.int .i64 (n : Int)) ∧ n ≤ 128 ∧ v < (2 ^ n : Nat) ∧ (v ≠ 0 → ((2 ^ n : Nat) : Int) ≤ 2 * v) ∧ Below w.heap.size w w'
theorem len_hi (h l : Int) (h1 : Word h) (h2 : Word l) (hh : h ≠ 0) (w w' : World) (hb : Below w.heap.size w w') : LenPost (val h l) w (.returned (.int .i64 (64 + (Lib.bitLen h.toNat : Int)))) w' := by
  unfold Word at *
  obtain ⟨x, rfl⟩ := Int.eq_ofNat_of_zero_le h1.1
  obtain ⟨b1, b2, b3⟩ := bitLen_bd x (by omega)
  have b2 := b2 (by omega)
  refine ⟨64 + Lib.bitLen x, by simp, by omega, ?_, fun _ => ?_, hb⟩
  · rw [Nat.pow_add, show (2 : Nat) ^ 64 = 18446744073709551616 from rfl]; unfold val; generalize 2 ^ Lib.bitLen x = p at *; omega
  · rw [Nat.pow_add, show (2 : Nat) ^ 64 = 18446744073709551616 from rfl]; unfold val; generalize 2 ^ Lib.bitLen x = p at *; omega
theorem len_lo (l : Int) (h2 : Word l) (w w' : World) (hb : Below w.heap.size w w') : LenPost (val 0 l) w (.returned (.int .i64 (Lib.bitLen l.toNat : Int))) w' := by
  unfold Word at *
  obtain ⟨x, rfl⟩ := Int.eq_ofNat_of_zero_le h2.1
  obtain ⟨b1, b2, b3⟩ := bitLen_bd x (by omega)
  refine ⟨Lib.bitLen x, by simp, by omega, ?_, fun hx => ?_, hb⟩
  · unfold val; generalize 2 ^ Lib.bitLen x = p at *; omega
  · unfold val at *; have b2 := b2 (by omega); generalize 2 ^ Lib.bitLen x = p at *; omega

set_option maxHeartbeats 400000 in
theorem len_any (h l : Int) (h1 : Word h) (h2 : Word l) (w : World) :
    Calls Tryd.prog 74 #[.agg #[.int .u64 h, .int .u64 l]] w (LenPost (val h l) w) := by
  by_cases hh : h = 0
  · subst hh
    have Hm := Lib.hid (len_lo l h2)
    have b := (bitLen_bd l.toNat (by have := h2.1; have := h2.2; omega)).2.2
    have b0 : 0 ≤ l := h2.1
    have b1 : l ≤ 18446744073709551615 := by have := h2.2; omega
    clear h1 h2
    go_enter Tryd.func74, Tryd.ntmps74
    go_wp2_with (go_at_call 72; refine (Tryd.bits_Len64 l _ b0 b1).mono ?_; rintro e w' ⟨rfl, rfl⟩)
    go_ret
    exact Hm.out _ _ ((Below.refl _ _).alloc (Nat.le_refl _) _)
  · have Hm := Lib.hid (len_hi h l h1 h2 hh)
    have b := (bitLen_bd h.toNat (by have := h1.1; have := h1.2; omega)).2.2
    have b0 : 0 ≤ h := h1.1
    have b1 : h ≤ 18446744073709551615 := by have := h1.2; omega
    clear h1 h2
    go_enter Tryd.func74, Tryd.ntmps74
    go_wp2_with (go_at_call 72; refine (Tryd.bits_Len64 h _ b0 b1).mono ?_; rintro e w' ⟨rfl, rfl⟩)
    go_ret
    exact Hm.out _ _ ((Below.refl _ _).alloc (Nat.le_refl _) _)

/-- What Cmp answers. -/
def CmpPost (a b : Int) (w : World) (e : Ending) (w' : World) : Prop :=
  ∃ c : Int, e = .returned (.int .i64 c) ∧ ((c = -1 ∧ a < b) ∨ (c = 0 ∧ a = b) ∨ (c = 1 ∧ b < a)) ∧ Below w.heap.size w w'
set_option maxHeartbeats 400000 in
theorem cmp_any (ah al bh bl : Int) (h1 : Word ah) (h2 : Word al) (h3 : Word bh) (h4 : Word bl) (w : World) :
    Calls Tryd.prog 85 #[.agg #[.int .u64 ah, .int .u64 al], .agg #[.int .u64 bh, .int .u64 bl]] w (CmpPost (val ah al) (val bh bl) w) := by
  obtain ⟨a1, a2⟩ := h1; obtain ⟨b1, b2⟩ := h2; obtain ⟨c1, c2⟩ := h3; obtain ⟨d1, d2⟩ := h4
  have Hb : Hid (∀ o1 o2, Below w.heap.size w ((w.alloc o1).alloc o2)) := fun _ _ => (((Below.refl _ _).alloc (Nat.le_refl _) _).alloc (by simp) _)
  by_cases e1 : ah = bh
  · subst e1
    by_cases e2 : al = bl
    · subst e2
      go_enter Tryd.func85, Tryd.ntmps85
      go_wp2
      go_ret
      exact ⟨0, rfl, .inr (.inl ⟨rfl, rfl⟩), Hb.out _ _⟩
    · by_cases e3 : al < bl
      · go_enter Tryd.func85, Tryd.ntmps85
        go_wp2
        go_ret
        exact ⟨-1, rfl, .inl ⟨rfl, by unfold val; omega⟩, Hb.out _ _⟩
      · go_enter Tryd.func85, Tryd.ntmps85
        go_wp2
        go_ret
        exact ⟨1, rfl, .inr (.inr ⟨rfl, by unfold val; omega⟩), Hb.out _ _⟩
  · by_cases e3 : ah < bh
    · go_enter Tryd.func85, Tryd.ntmps85
      go_wp2
      go_ret
      exact ⟨-1, rfl, .inl ⟨rfl, by unfold val; omega⟩, Hb.out _ _⟩
    · go_enter Tryd.func85, Tryd.ntmps85
      go_wp2
      go_ret
      exact ⟨1, rfl, .inr (.inr ⟨rfl, by unfold val; omega⟩), Hb.out _ _⟩

end Go.Proofs.YtnefacnceemklaaDoor

/-
  The walks of package wide: Shl, Shr.
-/
namespace Go.Proofs.YtnefacnceemklaaDoor
open Go.RowKit Go.Shelf

/-- A power of two, as an int. -/
def pw (n : Int) : Int := ((2 ^ n.toNat : Nat) : Int)
theorem pw_eq (n : Int) : (2 : Int) ^ n.toNat = pw n := (Int.natCast_pow 2 n.toNat).symm
theorem pw_pos (n : Int) : 0 < pw n := by exact Int.natCast_pos.2 (Nat.two_pow_pos _)
theorem pw_nonpos {n : Int} (h : n ≤ 0) : pw n = 1 := by unfold pw; rw [Int.toNat_of_nonpos h]; rfl
theorem pw_add (a b : Int) (ha : 0 ≤ a) (hb : 0 ≤ b) : pw (a + b) = pw a * pw b := by
  unfold pw
  rw [Int.toNat_add ha hb, Nat.pow_add]
  rfl
theorem pw_64 : pw 64 = 18446744073709551616 := rfl
theorem pw_split (n : Int) (h0 : 0 ≤ n) (h1 : n ≤ 64) : pw n * pw (64 - n) = 18446744073709551616 := by
  rw [← pw_add n (64 - n) h0 (by omega), show n + (64 - n) = 64 by omega]; rfl

/-- The words of a number that is shifted up by less than a word. -/
theorem shl_words (h l n : Int) (h1 : Word h) (h2 : Word l) (hn : 0 ≤ n) (hn2 : n ≤ 64) :
    bits .or .u64 (IntKind.u64.wrap (h * pw n)) (l / pw (64 - n)) = (val h l * pw n % 340282366920938463463374607431768211456) / 18446744073709551616 ∧
    IntKind.u64.wrap (l * pw n) = (val h l * pw n % 340282366920938463463374607431768211456) % 18446744073709551616 := by
  have hs := pw_split n hn hn2
  have hp := pw_pos n
  have hq := pw_pos (64 - n)
  have hpw : pw n = ((2 ^ n.toNat : Nat) : Int) := rfl
  obtain ⟨h, rfl⟩ := Int.eq_ofNat_of_zero_le h1.1
  obtain ⟨l, rfl⟩ := Int.eq_ofNat_of_zero_le h2.1
  generalize pw (64 - n) = q' at *
  generalize pw n = p' at *
  obtain ⟨p, rfl⟩ := Int.eq_ofNat_of_zero_le (Int.le_of_lt hp)
  obtain ⟨q, rfl⟩ := Int.eq_ofNat_of_zero_le (Int.le_of_lt hq)
  have hpq : p * q = Plain.B := Int.ofNat.inj hs
  have hpw : p = 2 ^ n.toNat := by exact_mod_cast hpw
  obtain ⟨a1, a2, a3, a4⟩ := Plain.shl_parts p q h l (by omega) (by omega) hpq (by have := h1.2; unfold Plain.B; omega) (by have := h2.2; unfold Plain.B; omega)
  have hl2 : l / q < 18446744073709551616 := Nat.lt_of_le_of_lt (Nat.div_le_self _ _) (by have := h2.2; omega)
  have e1 : IntKind.u64.wrap ((h : Int) * (p : Int)) = ((h * p % Plain.B : Nat) : Int) := by rw [IntKind.wrap_u64]; rfl
  have e2 : IntKind.u64.wrap ((l : Int) * (p : Int)) = ((l * p % Plain.B : Nat) : Int) := by rw [IntKind.wrap_u64]; rfl
  have e3 : (l : Int) / (q : Int) = ((l / q : Nat) : Int) := rfl
  have e4 : val (h : Int) (l : Int) * (p : Int) % 340282366920938463463374607431768211456 = (((h * Plain.B + l) * p % (Plain.B * Plain.B) : Nat) : Int) := rfl
  rw [e1, e2, e3, e4, u64_or_nat _ _ (Nat.mod_lt _ (by decide)) hl2]
  have a3' : h * p % Plain.B % 2 ^ n.toNat = 0 := by rw [← hpw]; exact a3
  have a4' : l / q < 2 ^ n.toNat := by rw [← hpw]; exact a4
  rw [Plain.nat_join n.toNat _ _ a3' a4', a1, a2]
  exact ⟨rfl, rfl⟩

theorem u128_mk (v : Int) (h0 : 0 ≤ v) (h1 : v < 340282366920938463463374607431768211456) (w w' : World) (hb : Below w.heap.size w w') :
    U128Post v w (.returned (.agg #[.int .u64 (v / 18446744073709551616), .int .u64 (v % 18446744073709551616)])) w' :=
  ⟨_, _, rfl, ⟨by omega, by omega⟩, ⟨by omega, by omega⟩, by unfold val; omega, hb⟩
theorem mod_bd (x : Int) : 0 ≤ x % 340282366920938463463374607431768211456 ∧ x % 340282366920938463463374607431768211456 < 340282366920938463463374607431768211456 := by omega

theorem shl_mk (h l n : Int) (h1 : Word h) (h2 : Word l) (hn : 0 ≤ n) (hn2 : n ≤ 64) (w w' : World) (hb : Below w.heap.size w w') :
    U128Post (val h l * pw n % 340282366920938463463374607431768211456) w (.returned (.agg #[.int .u64 (bits .or .u64 (IntKind.u64.wrap (h * 2 ^ n.toNat)) (l / 2 ^ (64 - n).toNat)), .int .u64 (IntKind.u64.wrap (l * 2 ^ n.toNat))])) w' := by
  rw [pw_eq, pw_eq, (shl_words h l n h1 h2 hn hn2).1, (shl_words h l n h1 h2 hn hn2).2]
  exact u128_mk _ (mod_bd _).1 (mod_bd _).2 _ _ hb

set_option maxHeartbeats 400000 in
theorem shl_mid (h l n : Int) (h1 : Word h) (h2 : Word l) (hn : 0 < n) (hn2 : n < 64) (w : World) :
    Calls Tryd.prog 48 #[.agg #[.int .u64 h, .int .u64 l], .int .i64 n] w (U128Post (val h l * pw n % 340282366920938463463374607431768211456) w) := by
  have Hm := Lib.hid (shl_mk h l n h1 h2 (by omega) (by omega))
  obtain ⟨a1, a2⟩ := h1; obtain ⟨b1, b2⟩ := h2
  go_enter Tryd.func48, Tryd.ntmps48
  go_wp2
  go_region
  all_goals (go_wp2; simp [bodyPost, results, Tryd.results48, go_sem]; exact Hm.out _ _ (((Below.refl _ _).alloc (Nat.le_refl _) _).alloc (by simp) _).drew)

set_option maxHeartbeats 400000 in
theorem shl_none (h l n : Int) (hn : n ≤ 0) (w : World) :
    Calls Tryd.prog 48 #[.agg #[.int .u64 h, .int .u64 l], .int .i64 n] w fun e w' => e = .returned (.agg #[.int .u64 h, .int .u64 l]) ∧ Below w.heap.size w w' := by
  go_enter Tryd.func48, Tryd.ntmps48
  go_wp2
  simp [bodyPost, results, Tryd.results48, go_sem]
  exact (((Below.refl _ _).alloc (Nat.le_refl _) _).alloc (by simp) _)

/-- A shift up by a word or more. -/
theorem shl_far_mk (h l n : Int) (hn : 64 ≤ n) (w w' : World) (hb : Below w.heap.size w w') :
    U128Post (val h l * pw n % 340282366920938463463374607431768211456) w (.returned (.agg #[.int .u64 (IntKind.u64.wrap (l * 2 ^ min (n - 64).toNat 64)), .int .u64 0])) w' := by
  have e : val h l * pw n % 340282366920938463463374607431768211456 = val (IntKind.u64.wrap (l * 2 ^ min (n - 64).toNat 64)) 0 := by
    rw [IntKind.wrap_u64]
    have e1 : pw n = pw (n - 64) * 18446744073709551616 := by rw [← pw_64, ← pw_add _ _ (by omega) (by omega)]; congr 1; omega
    have e2 : ∃ k, pw (n - 64) = 2 ^ min (n - 64).toNat 64 * k ∧ (64 ≤ n - 64 ∨ k = 1) := by
      rw [← pw_eq]
      by_cases hm : (n - 64).toNat ≤ 64
      · exact ⟨1, by rw [Nat.min_eq_left hm, Int.mul_one], .inr rfl⟩
      · exact ⟨2 ^ ((n - 64).toNat - 64), by rw [Nat.min_eq_right (by omega), ← Int.pow_add]; congr 1; omega, .inl (by omega)⟩
    obtain ⟨k, e2, hk⟩ := e2
    rcases hk with hk | rfl
    · have e3 : min (n - 64).toNat 64 = 64 := by omega
      rw [e1, e2, e3, show (2 : Int) ^ 64 = 18446744073709551616 from rfl]
      unfold val
      have a1 : (h * 18446744073709551616 + l) * (18446744073709551616 * k * 18446744073709551616) = ((h * 18446744073709551616 + l) * k) * 340282366920938463463374607431768211456 := by
        generalize h * 18446744073709551616 + l = v
        rw [Int.mul_comm 18446744073709551616 k, Int.mul_assoc k, ← Int.mul_assoc v k]; rfl
      rw [a1, Int.mul_emod_left, Int.mul_emod_left]; rfl
    · rw [e1, e2, Int.mul_one]
      generalize (2 : Int) ^ min (n - 64).toNat 64 = p
      unfold val
      rw [Int.add_mul, show h * 18446744073709551616 * (p * 18446744073709551616) = (h * p) * 340282366920938463463374607431768211456 by
        rw [Int.mul_assoc, Int.mul_left_comm 18446744073709551616 p, ← Int.mul_assoc h p]; rfl, ← Int.mul_assoc l p]
      generalize h * p = x
      generalize l * p = y
      omega
  refine ⟨_, _, rfl, ?_, ⟨by omega, by omega⟩, e.symm, hb⟩
  rw [IntKind.wrap_u64]; exact ⟨by omega, by omega⟩

set_option maxHeartbeats 400000 in
theorem shl_far (h l n : Int) (hn : 64 ≤ n) (hn2 : n ≤ 9223372036854775807) (w : World) :
    Calls Tryd.prog 48 #[.agg #[.int .u64 h, .int .u64 l], .int .i64 n] w (U128Post (val h l * pw n % 340282366920938463463374607431768211456) w) := by
  have Hm := Lib.hid (shl_far_mk h l n hn)
  go_enter Tryd.func48, Tryd.ntmps48
  go_wp2
  simp [bodyPost, results, Tryd.results48, go_sem]
  exact Hm.out _ _ (((Below.refl _ _).alloc (Nat.le_refl _) _).alloc (by simp) _)

theorem val_bd {h l : Int} (h1 : Word h) (h2 : Word l) : 0 ≤ val h l ∧ val h l < 340282366920938463463374607431768211456 := by
  unfold Word val at *; omega

/-- Shl, for every number of places. -/
theorem shl_any (h l n : Int) (h1 : Word h) (h2 : Word l) (hn2 : n ≤ 9223372036854775807) (w : World) :
    Calls Tryd.prog 48 #[.agg #[.int .u64 h, .int .u64 l], .int .i64 n] w (U128Post (val h l * pw n % 340282366920938463463374607431768211456) w) := by
  by_cases h0 : n ≤ 0
  · refine (shl_none h l n h0 w).mono fun e w' ⟨he, hb⟩ => ⟨h, l, he, h1, h2, ?_, hb⟩
    have := val_bd h1 h2
    rw [pw_nonpos h0]; omega
  · by_cases h64 : n < 64
    · exact shl_mid h l n h1 h2 (by omega) h64 w
    · exact shl_far h l n (by omega) hn2 w

/-- The words of a number that is shifted down by less than a word. -/
theorem shr_words (h l n : Int) (h1 : Word h) (h2 : Word l) (hn : 0 ≤ n) (hn2 : n ≤ 64) :
    h / pw n = (val h l / pw n) / 18446744073709551616 ∧
    bits .or .u64 (l / pw n) (IntKind.u64.wrap (h * pw (64 - n))) = (val h l / pw n) % 18446744073709551616 := by
  have hs := pw_split n hn hn2
  have hp := pw_pos n
  have hq := pw_pos (64 - n)
  have hpw : pw (64 - n) = ((2 ^ (64 - n).toNat : Nat) : Int) := rfl
  obtain ⟨h, rfl⟩ := Int.eq_ofNat_of_zero_le h1.1
  obtain ⟨l, rfl⟩ := Int.eq_ofNat_of_zero_le h2.1
  generalize pw (64 - n) = q' at *
  generalize pw n = p' at *
  obtain ⟨p, rfl⟩ := Int.eq_ofNat_of_zero_le (Int.le_of_lt hp)
  obtain ⟨q, rfl⟩ := Int.eq_ofNat_of_zero_le (Int.le_of_lt hq)
  have hpq : p * q = Plain.B := Int.ofNat.inj hs
  have hpw : q = 2 ^ (64 - n).toNat := by exact_mod_cast hpw
  obtain ⟨a1, a2, a3, a4⟩ := Plain.shr_parts p q h l (by omega) (by omega) hpq (by have := h1.2; unfold Plain.B; omega) (by have := h2.2; unfold Plain.B; omega)
  have hl2 : l / p < 18446744073709551616 := Nat.lt_of_le_of_lt (Nat.div_le_self _ _) (by have := h2.2; omega)
  have e1 : IntKind.u64.wrap ((h : Int) * (q : Int)) = ((h * q % Plain.B : Nat) : Int) := by rw [IntKind.wrap_u64]; rfl
  have e3 : (l : Int) / (p : Int) = ((l / p : Nat) : Int) := rfl
  have e4 : val (h : Int) (l : Int) / (p : Int) = (((h * Plain.B + l) / p : Nat) : Int) := rfl
  have e5 : (h : Int) / (p : Int) = ((h / p : Nat) : Int) := rfl
  rw [e1, e3, e4, e5, u64_or_nat _ _ hl2 (Nat.mod_lt _ (by decide)), Nat.or_comm]
  have a3' : h * q % Plain.B % 2 ^ (64 - n).toNat = 0 := by rw [← hpw]; exact a3
  have a4' : l / p < 2 ^ (64 - n).toNat := by rw [← hpw]; exact a4
  rw [Plain.nat_join _ _ _ a3' a4', a1, a2]
  exact ⟨rfl, rfl⟩

/-- What Shr answers. -/
def ShrPost (v p : Int) (w : World) (e : Ending) (w' : World) : Prop :=
  ∃ h l : Int, ∃ o : Bool, e = .returned (.tuple #[.agg #[.int .u64 h, .int .u64 l], .bool o]) ∧ Word h ∧ Word l ∧ val h l = v / p ∧ (o = false ↔ v % p = 0) ∧ Below w.heap.size w w'

theorem val_inj {a b c d : Int} (_h1 : Word a) (h2 : Word b) (_h3 : Word c) (h4 : Word d) (h : val a b = val c d) : a = c ∧ b = d := by
  unfold Word val at *; omega
theorem U128Post.at {v r s : Int} (h1 : Word r) (h2 : Word s) (hv : val r s = v) : ∀ (w : World) (e : Ending) (w' : World), U128Post v w e w' → e = .returned (.agg #[.int .u64 r, .int .u64 s]) ∧ Below w.heap.size w w' := by
  rintro w e w' ⟨a, b, rfl, h3, h4, h, hb⟩
  obtain ⟨rfl, rfl⟩ := val_inj h1 h2 h3 h4 (hv.trans h.symm)
  exact ⟨rfl, hb⟩
theorem words (v : Int) (h0 : 0 ≤ v) (h1 : v < 340282366920938463463374607431768211456) : ∃ r s, Word r ∧ Word s ∧ val r s = v :=
  ⟨v / 18446744073709551616, v % 18446744073709551616, ⟨by omega, by omega⟩, ⟨by omega, by omega⟩, by unfold val; omega⟩

/-- What comes of Shr: the words x, y; shifted up again they are r, s. -/
theorem shr_mk (h l n x y r s : Int) (h1 : Word h) (h2 : Word l) (h3 : Word x) (h4 : Word y) (h5 : Word r) (h6 : Word s) (hxy : val x y = val h l / pw n)
    (hrs : val r s = val x y * pw n % 340282366920938463463374607431768211456) (o : Bool) (ho : o = false ↔ (r = h ∧ s = l)) (w w' : World) (hb : Below w.heap.size w w') :
    ShrPost (val h l) (pw n) w (.returned (.tuple #[.agg #[.int .u64 x, .int .u64 y], .bool o])) w' := by
  refine ⟨x, y, o, rfl, h3, h4, hxy, ?_, hb⟩
  rw [ho]
  obtain ⟨b1, b2⟩ := val_bd h1 h2
  have hp := pw_pos n
  rw [hxy] at hrs
  have hd := Int.mul_ediv_add_emod (val h l) (pw n)
  have hm := Int.emod_nonneg (val h l) (Int.ne_of_gt hp)
  have hq := Int.ediv_nonneg b1 (Int.le_of_lt hp)
  have hqp := Int.mul_nonneg hq (Int.le_of_lt hp)
  rw [Int.mul_comm] at hd
  have e : val r s = val h l / pw n * pw n := by rw [hrs]; omega
  constructor
  · rintro ⟨rfl, rfl⟩; omega
  · intro h0; exact val_inj h5 h6 h1 h2 (by omega)

set_option maxHeartbeats 400000 in
theorem shr_mid (h l n x y r s : Int) (h1 : Word h) (h2 : Word l) (hn : 0 < n) (hn2 : n < 64) (h3 : Word x) (h4 : Word y) (h5 : Word r) (h6 : Word s) (hx : h / 2 ^ n.toNat = x)
    (hy : bits .or .u64 (l / 2 ^ n.toNat) (IntKind.u64.wrap (h * 2 ^ (64 - n).toNat)) = y)
    (hrs : val r s = val x y * pw n % 340282366920938463463374607431768211456) (w : World) :
    Calls Tryd.prog 75 #[.agg #[.int .u64 h, .int .u64 l], .int .i64 n] w (ShrPost (val h l) (pw n) w) := by
  have hxy : val x y = val h l / pw n := by
    rw [← hx, ← hy, pw_eq, pw_eq, (shr_words h l n h1 h2 (by omega) (by omega)).1, (shr_words h l n h1 h2 (by omega) (by omega)).2]
    unfold val; generalize (h * 18446744073709551616 + l) / pw n = z; omega
  have Hm := Lib.hid (shr_mk h l n x y r s h1 h2 h3 h4 h5 h6 hxy hrs)
  have H3 := Lib.hid h3; have H4 := Lib.hid h4; have Hrs := Lib.hid (U128Post.at h5 h6 hrs); clear h3 h4 hrs hxy h5 h6
  obtain ⟨a1, a2⟩ := h1; obtain ⟨b1, b2⟩ := h2
  have hn3 : n ≤ 9223372036854775807 := by omega
  have key : ∀ b1 b2 : Bool, (r == h) = b1 → (s == l) = b2 → Calls Tryd.prog 75 #[.agg #[.int .u64 h, .int .u64 l], .int .i64 n] w (ShrPost (val h l) (pw n) w) := by
    intro c1 c2 k1 k2
    have Hc : Hid (∀ o : Bool, o = !(c1 && c2) → (o = false ↔ (r = h ∧ s = l))) := fun o ho => by
      subst ho; rw [← k1, ← k2]; simp
    cases c1 <;> cases c2
    all_goals
      go_enter Tryd.func75, Tryd.ntmps75
      go_wp2
      go_region
      go_wp2
      go_region_held3 (fun w' => w'.cell? ⟨w.heap.size, 0, none⟩ = some (.int .u64 h) ∧ w'.cell? ⟨w.heap.size, 1, none⟩ = some (.int .u64 l) ∧ w'.cell? ⟨w.heap.size + 1 + 1, 0, none⟩ = some (.int .u64 x) ∧ w'.cell? ⟨w.heap.size + 1 + 1, 1, none⟩ = some (.int .u64 y)) (simp [*, go_sem, World.cell?_alloc_past])
        (first
          | (go_at_call 48; refine ((shl_any x y n H3.out H4.out hn3 _).mono (Hrs.out _)).mono ?_; rintro e w' ⟨rfl, hb⟩; obtain ⟨hk, hf⟩ := bcell hb))
      have e0 : w'.cell? ⟨w.heap.size + 1, 0, none⟩ = some (.int .u64 0) := by rw [(bcell hb).1 _ _ (by simp)]; simp [go_sem, World.cell?_alloc_past]
      have e1 : w'.cell? ⟨w.heap.size + 1, 1, none⟩ = some (.int .u64 0) := by rw [(bcell hb).1 _ _ (by simp)]; simp [go_sem, World.cell?_alloc_past]
      go_wp2
      simp [bodyPost, results, Tryd.results75, go_sem, e0, e1]
      refine Hm.out _ (Hc.out _ rfl) _ _ ?_
      exact (((((((Below.refl _ _).alloc (Nat.le_refl _) _).alloc (by simp) _).alloc (by simp; omega) _).drew.drew).trans (hb.mono (by simp; omega))).setCell (by simp) _).setCell (by simp) _
  exact key _ _ rfl rfl

set_option maxHeartbeats 400000 in
theorem shr_none (h l n : Int) (hn : n ≤ 0) (w : World) :
    Calls Tryd.prog 75 #[.agg #[.int .u64 h, .int .u64 l], .int .i64 n] w fun e w' => e = .returned (.tuple #[.agg #[.int .u64 h, .int .u64 l], .bool false]) ∧ Below w.heap.size w w' := by
  go_enter Tryd.func75, Tryd.ntmps75
  go_wp2
  simp [bodyPost, results, Tryd.results75, go_sem]
  exact (((Below.refl _ _).alloc (Nat.le_refl _) _).alloc (by simp) _)

theorem far_div (h l n : Int) (h1 : Word h) (h2 : Word l) (hn : 64 ≤ n) : val 0 (h / 2 ^ min (n - 64).toNat 64) = val h l / pw n := by
  have e1 : pw n = 18446744073709551616 * pw (n - 64) := by rw [← pw_64, ← pw_add _ _ (by omega) (by omega)]; congr 1; omega
  rw [e1, ← Int.ediv_ediv_of_nonneg (by decide), show val h l / 18446744073709551616 = h by unfold val Word at *; omega]
  unfold val
  rw [← pw_eq]
  obtain ⟨h, rfl⟩ := Int.eq_ofNat_of_zero_le h1.1
  by_cases hm : (n - 64).toNat ≤ 64
  · rw [Nat.min_eq_left hm]; omega
  · rw [Nat.min_eq_right (by omega)]
    have e2 : (h : Int) / 2 ^ 64 = 0 := by have := h1.2; rw [show (2 : Int) ^ 64 = 18446744073709551616 from rfl]; omega
    have e3 : (h : Int) / 2 ^ (n - 64).toNat = 0 := by
      refine Int.ediv_eq_zero_of_lt (by omega) ?_
      have k : 2 ^ 64 ≤ 2 ^ (n - 64).toNat := Nat.pow_le_pow_right (by decide) (by omega)
      rw [show (2 : Nat) ^ 64 = 18446744073709551616 from rfl] at k
      have e : (2 : Int) ^ (n - 64).toNat = ((2 ^ (n - 64).toNat : Nat) : Int) := (Int.natCast_pow 2 _).symm
      rw [e]
      have := h1.2
      generalize 2 ^ (n - 64).toNat = z at *
      omega
    rw [e2, e3]; rfl

set_option maxHeartbeats 400000 in
theorem shr_far (h l n y r s : Int) (h1 : Word h) (h2 : Word l) (hn : 64 ≤ n) (hn3 : n ≤ 9223372036854775807) (h4 : Word y) (h5 : Word r) (h6 : Word s) (hy : h / 2 ^ min (n - 64).toNat 64 = y)
    (hrs : val r s = val 0 y * pw n % 340282366920938463463374607431768211456) (w : World) :
    Calls Tryd.prog 75 #[.agg #[.int .u64 h, .int .u64 l], .int .i64 n] w (ShrPost (val h l) (pw n) w) := by
  have h3 : Word 0 := by unfold Word; decide
  have hxy : val 0 y = val h l / pw n := by rw [← hy]; exact far_div h l n h1 h2 hn
  have Hm := Lib.hid (shr_mk h l n 0 y r s h1 h2 h3 h4 h5 h6 hxy hrs)
  have H3 := Lib.hid h3; have H4 := Lib.hid h4; have Hrs := Lib.hid (U128Post.at h5 h6 hrs); clear h3 h4 hrs hxy h5 h6
  obtain ⟨a1, a2⟩ := h1; obtain ⟨b1, b2⟩ := h2
  have key : ∀ b1 b2 : Bool, (r == h) = b1 → (s == l) = b2 → Calls Tryd.prog 75 #[.agg #[.int .u64 h, .int .u64 l], .int .i64 n] w (ShrPost (val h l) (pw n) w) := by
    intro c1 c2 k1 k2
    have Hc : Hid (∀ o : Bool, o = !(c1 && c2) → (o = false ↔ (r = h ∧ s = l))) := fun o ho => by
      subst ho; rw [← k1, ← k2]; simp
    cases c1 <;> cases c2
    all_goals
      go_enter Tryd.func75, Tryd.ntmps75
      go_wp2
      go_region_held3 (fun w' => w'.cell? ⟨w.heap.size, 0, none⟩ = some (.int .u64 h) ∧ w'.cell? ⟨w.heap.size, 1, none⟩ = some (.int .u64 l) ∧ w'.cell? ⟨w.heap.size + 1 + 1, 0, none⟩ = some (.int .u64 0) ∧ w'.cell? ⟨w.heap.size + 1 + 1, 1, none⟩ = some (.int .u64 y)) (simp [*, go_sem, World.cell?_alloc_past])
        (first
          | (go_at_call 48; refine ((shl_any 0 y n H3.out H4.out hn3 _).mono (Hrs.out _)).mono ?_; rintro e w' ⟨rfl, hb⟩; obtain ⟨hk, hf⟩ := bcell hb))
      have e0 : w'.cell? ⟨w.heap.size + 1, 0, none⟩ = some (.int .u64 0) := by rw [(bcell hb).1 _ _ (by simp)]; simp [go_sem, World.cell?_alloc_past]
      have e1 : w'.cell? ⟨w.heap.size + 1, 1, none⟩ = some (.int .u64 0) := by rw [(bcell hb).1 _ _ (by simp)]; simp [go_sem, World.cell?_alloc_past]
      go_wp2
      simp [bodyPost, results, Tryd.results75, go_sem, e0, e1]
      refine Hm.out _ (Hc.out _ rfl) _ _ ?_
      exact ((((((Below.refl _ _).alloc (Nat.le_refl _) _).alloc (by simp) _).alloc (by simp; omega) _).drew.trans (hb.mono (by simp; omega))).setCell (by simp) _).setCell (by simp) _
  exact key _ _ rfl rfl

/-- Shr, for every number of places. -/
theorem shr_any (h l n : Int) (h1 : Word h) (h2 : Word l) (hn2 : n ≤ 9223372036854775807) (w : World) :
    Calls Tryd.prog 75 #[.agg #[.int .u64 h, .int .u64 l], .int .i64 n] w (ShrPost (val h l) (pw n) w) := by
  by_cases h0 : n ≤ 0
  · refine (shr_none h l n h0 w).mono fun e w' ⟨he, hb⟩ => ⟨h, l, false, he, h1, h2, ?_, ?_, hb⟩
    · rw [pw_nonpos h0]; omega
    · rw [pw_nonpos h0]; simp
  · by_cases h64 : n < 64
    · obtain ⟨e1, e2⟩ := shr_words h l n h1 h2 (by omega) (by omega)
      have bd := val_bd h1 h2
      have hp := pw_pos n
      have q1 := Int.ediv_nonneg bd.1 (Int.le_of_lt hp)
      have q2 : val h l / pw n ≤ val h l := Int.ediv_le_self _ bd.1
      rw [← pw_eq] at e1 e2
      rw [← pw_eq (64 - n)] at e2
      obtain ⟨r, s, h5, h6, hrs⟩ := words (val (h / 2 ^ n.toNat) (bits .or .u64 (l / 2 ^ n.toNat) (IntKind.u64.wrap (h * 2 ^ (64 - n).toNat))) * pw n % 340282366920938463463374607431768211456) (mod_bd _).1 (mod_bd _).2
      rw [← pw_eq] at q1 q2
      exact shr_mid h l n _ _ r s h1 h2 (by omega) h64 (by rw [e1]; unfold Word; omega) (by rw [e2]; unfold Word; omega) h5 h6 rfl rfl hrs w
    · have hy : Word (h / 2 ^ min (n - 64).toNat 64) := by
        have e : (2 : Int) ^ min (n - 64).toNat 64 = ((2 ^ min (n - 64).toNat 64 : Nat) : Int) := (Int.natCast_pow 2 _).symm
        have hp : (0 : Int) < 2 ^ min (n - 64).toNat 64 := by rw [e]; exact Int.natCast_pos.2 (Nat.two_pow_pos _)
        have := Int.ediv_le_self (2 ^ min (n - 64).toNat 64) h1.1
        exact ⟨Int.ediv_nonneg h1.1 (Int.le_of_lt hp), by have := h1.2; omega⟩
      obtain ⟨r, s, h5, h6, hrs⟩ := words (val 0 (h / 2 ^ min (n - 64).toNat 64) * pw n % 340282366920938463463374607431768211456) (mod_bd _).1 (mod_bd _).2
      exact shr_far h l n _ r s h1 h2 (by omega) hn2 hy h5 h6 rfl hrs w
end Go.Proofs.YtnefacnceemklaaDoor

/-
  Small things that the statements share.
-/
namespace Go.Proofs.YtnefacnceemklaaDoor
open Go.RowKit Go.Shelf

/-- What the head answers: true; nothing that was there has changed. -/
def TruePost (w : World) (e : Ending) (w' : World) : Prop := e = .returned (.bool true) ∧ Below w.heap.size w w'
instance (x : Int) : Decidable (Word x) := by unfold Word; infer_instance
end Go.Proofs.YtnefacnceemklaaDoor

/-
  The walk of math/bits.Div64.
-/
namespace Go.Proofs.YtnefacnceemklaaDoor
open Go.RowKit Go.Shelf

set_option maxHeartbeats 400000 in
theorem div64_small (lo y : Int) (h2 : Word lo) (h3 : Word y) (hy : 0 < y) (w : World) :
    Calls Tryd.prog 73 #[.int .u64 0, .int .u64 lo, .int .u64 y] w fun e w' => e = .returned (.tuple #[.int .u64 (lo / y), .int .u64 (lo % y)]) ∧ ∃ n, w' = w.drewN n := by
  obtain ⟨a1, a2⟩ := h2; obtain ⟨b1, b2⟩ := h3
  have hy0 : (y == 0) = false := by simp; omega
  go_enter Tryd.func73, Tryd.ntmps73
  go_wp2
  go_quiet (fail)
  go_wp2
  go_ret2
  exact ⟨rfl, nq, rfl⟩

/-- What holds of a guess q and its rest r, at each round's head. -/
structure Guess (u u1 y1 y0 q r : Int) : Prop where
  q0 : 0 ≤ q
  q1 : q ≤ 4294967297
  r0 : 0 ≤ r
  r1 : r < 4294967296
  eq : q * y1 + r = u
  le : (u * 4294967296 + u1) / (y1 * 4294967296 + y0) ≤ q

/-- What the numbers are. -/
structure Digits (u u1 y1 y0 : Int) : Prop where
  b1 : 2147483648 ≤ y1
  b2 : y1 < 4294967296
  b3 : 0 ≤ y0
  b4 : y0 < 4294967296
  b5 : 0 ≤ u
  b6 : u < y1 * 4294967296 + y0
  b7 : 0 ≤ u1
  b8 : u1 < 4294967296

theorem Digits.lt {u u1 y1 y0 : Int} (d : Digits u u1 y1 y0) : (u * 4294967296 + u1) / (y1 * 4294967296 + y0) < 4294967296 := by
  obtain ⟨b1, b2, b3, b4, b5, b6, b7, b8⟩ := d
  apply Int.ediv_lt_of_lt_mul (by omega)
  omega
theorem guess_step {u u1 y1 y0 q r : Int} (d : Digits u u1 y1 y0) (g : Guess u u1 y1 y0 q r) (hc : 4294967296 ≤ q ∨ 4294967296 * r + u1 < q * y0) : (u * 4294967296 + u1) / (y1 * 4294967296 + y0) ≤ q - 1 := by
  have hl := d.lt
  rcases hc with hc | hc
  · omega
  · have : u * 4294967296 + u1 < q * (y1 * 4294967296 + y0) := by
      rw [← g.eq, Int.mul_add, ← Int.mul_assoc, Int.add_mul]; omega
    have := Int.ediv_lt_of_lt_mul (by have := d.b1; have := d.b3; omega) this
    omega
theorem guess_eq {u u1 y1 y0 q r : Int} (d : Digits u u1 y1 y0) (he : q * y1 + r = u) (hle : (u * 4294967296 + u1) / (y1 * 4294967296 + y0) ≤ q) (hc : q * y0 ≤ 4294967296 * r + u1) : q = (u * 4294967296 + u1) / (y1 * 4294967296 + y0) := by
  have h : q * (y1 * 4294967296 + y0) ≤ u * 4294967296 + u1 := by
    rw [← he, Int.mul_add, ← Int.mul_assoc, Int.add_mul]; omega
  have := (Int.le_ediv_iff_mul_le (by have := d.b1; have := d.b3; omega)).2 h
  omega
theorem guess_next {u u1 y1 y0 q r : Int} (d : Digits u u1 y1 y0) (g : Guess u u1 y1 y0 q r) (hc : 4294967296 ≤ q ∨ 4294967296 * r + u1 < q * y0) (hr : r + y1 < 4294967296) : Guess u u1 y1 y0 (q - 1) (r + y1) := by
  have h1 := guess_step d g hc
  obtain ⟨b1, b2, b3, b4, b5, b6, b7, b8⟩ := d
  have h0 : 0 ≤ (u * 4294967296 + u1) / (y1 * 4294967296 + y0) := Int.ediv_nonneg (by omega) (by omega)
  obtain ⟨g0, g1, g2, g3, g4, g5⟩ := g
  exact ⟨by omega, by omega, by omega, hr, by rw [Int.sub_mul]; omega, h1⟩
theorem guess_break {u u1 y1 y0 q r : Int} (d : Digits u u1 y1 y0) (g : Guess u u1 y1 y0 q r) (hc : 4294967296 ≤ q ∨ 4294967296 * r + u1 < q * y0) (hr : 4294967296 ≤ r + y1) : q - 1 = (u * 4294967296 + u1) / (y1 * 4294967296 + y0) := by
  have h1 := guess_step d g hc
  refine guess_eq (r := r + y1) d (by rw [Int.sub_mul]; have := g.eq; omega) h1 ?_
  have k : (q - 1) * y0 ≤ 4294967296 * y0 := Int.mul_le_mul_of_nonneg_right (by have := g.q1; omega) d.b3
  have := d.b4; have := d.b7; omega
/-- The guess at the start. -/
theorem guess_first {u u1 y1 y0 : Int} (d : Digits u u1 y1 y0) : Guess u u1 y1 y0 (u / y1) (u - u / y1 * y1) ∧ IntKind.u64.wrap (u - IntKind.u64.wrap (u / y1 * y1)) = u - u / y1 * y1 := by
  obtain ⟨b1, b2, b3, b4, b5, b6, b7, b8⟩ := d
  have e := Int.mul_ediv_add_emod u y1
  have m0 := Int.emod_nonneg u (by omega : y1 ≠ 0)
  have m1 := Int.emod_lt_of_pos u (by omega : 0 < y1)
  have q0 : 0 ≤ u / y1 := Int.ediv_nonneg b5 (by omega)
  rw [Int.mul_comm] at e
  have h : u / y1 < 4294967298 := Int.ediv_lt_of_lt_mul (by omega) (by omega)
  have hle : (u * 4294967296 + u1) / (y1 * 4294967296 + y0) ≤ u / y1 := by
    have hy : 0 < y1 * 4294967296 + y0 := by omega
    rw [Int.le_ediv_iff_mul_le (by omega)]
    have k := Int.ediv_mul_le (u * 4294967296 + u1) (b := y1 * 4294967296 + y0) (by omega)
    have z : 0 ≤ (u * 4294967296 + u1) / (y1 * 4294967296 + y0) := Int.ediv_nonneg (by omega) (by omega)
    generalize (u * 4294967296 + u1) / (y1 * 4294967296 + y0) = Q at *
    rw [Int.mul_add, ← Int.mul_assoc] at k
    have z2 : 0 ≤ Q * y0 := Int.mul_nonneg z b3
    omega
  refine ⟨⟨q0, by omega, by omega, by omega, by omega, hle⟩, ?_⟩
  rw [IntKind.wrap_u64, IntKind.wrap_u64]
  generalize u / y1 * y1 = x at *
  omega
theorem guess_t {u u1 y1 y0 q r : Int} (d : Digits u u1 y1 y0) (g : Guess u u1 y1 y0 q r) : IntKind.u64.wrap (q * y0) = q * y0 := by
  rw [IntKind.wrap_u64]
  have h0 := Int.mul_nonneg g.q0 d.b3
  have h1 : q * y0 ≤ 4294967297 * 4294967295 := Int.mul_le_mul g.q1 (by have := d.b4; omega) d.b3 (by decide)
  omega

theorem lz64 (x : Int) (w : World) (h0 : 0 ≤ x) (h1 : x ≤ 18446744073709551615) :
    Calls Tryd.prog 103 #[.int .u64 x] w fun e w' => e = .returned (.int .i64 (64 - (Lib.bitLen x.toNat : Int))) ∧ w = w' :=
  (Tryd.bits_LeadingZeros64 x w h0 h1).mono fun _ _ h => ⟨h.1, h.2.symm⟩

set_option maxHeartbeats 2000000 in
theorem div64_big (hi lo y s Y y1 y0 u L u1 u0 : Int) (h1 : Word hi) (h2 : Word lo) (h3 : Word y) (hlt : hi < y) (h0 : 0 < hi) (hs0 : 0 ≤ s) (hs1 : s < 64) (hs : 64 - (Lib.bitLen y.toNat : Int) = s)
    (hY : IntKind.u64.wrap (y * 2 ^ s.toNat) = Y) (hy1 : Y / 4294967296 = y1) (hy0 : bits .and .u64 Y 4294967295 = y0)
    (hu : bits .or .u64 (IntKind.u64.wrap (hi * 2 ^ s.toNat)) (lo / 2 ^ (64 - s).toNat) = u) (hL : IntKind.u64.wrap (lo * 2 ^ s.toNat) = L) (hu1 : L / 4294967296 = u1) (hu0 : bits .and .u64 L 4294967295 = u0)
    (b1 : 2147483648 ≤ y1) (b2 : y1 < 4294967296) (b3 : 0 ≤ y0) (b4 : y0 < 4294967296) (b5 : 0 ≤ u) (b6 : u < 18446744073709551616) (b7 : 0 ≤ u1) (b8 : u1 < 4294967296) (b9 : 0 ≤ u0) (b10 : u0 < 4294967296)
    (q r Q : Int) (hq : u / y1 = q) (hr : IntKind.u64.wrap (u - IntKind.u64.wrap (q * y1)) = r) (hQ : Hid ((u * 4294967296 + u1) / (y1 * 4294967296 + y0) = Q)) (hg : Hid (Guess u u1 y1 y0 q r)) (hd : Hid (Digits u u1 y1 y0))
    (v : Int) (hv : IntKind.u64.wrap (IntKind.u64.wrap (IntKind.u64.wrap (u * 4294967296) + u1) - IntKind.u64.wrap (Q * Y)) = v) (b11 : 0 ≤ v) (b12 : v < 18446744073709551616)
    (q' r' Q' : Int) (hq' : v / y1 = q') (hr' : IntKind.u64.wrap (v - IntKind.u64.wrap (q' * y1)) = r') (hQ' : Hid ((v * 4294967296 + u0) / (y1 * 4294967296 + y0) = Q')) (hg' : Hid (Guess v u0 y1 y0 q' r')) (hd' : Hid (Digits v u0 y1 y0))
    (A R : Int) (hA : IntKind.u64.wrap (IntKind.u64.wrap (Q * 4294967296) + Q') = A) (hR : IntKind.u64.wrap (IntKind.u64.wrap (IntKind.u64.wrap (v * 4294967296) + u0) - IntKind.u64.wrap (Q' * Y)) / 2 ^ s.toNat = R)
    (w : World) :
    Calls Tryd.prog 73 #[.int .u64 hi, .int .u64 lo, .int .u64 y] w fun e w' => e = .returned (.tuple #[.int .u64 A, .int .u64 R]) ∧ ∃ n, w' = w.drewN n := by
  obtain ⟨a1, a2⟩ := h1; obtain ⟨d1, d2⟩ := h2; obtain ⟨c1, c2⟩ := h3
  have hyy : (y == 0) = false := by simp; omega
  have hhi : (hi == 0) = false := by simp; omega
  have c3 : y ≤ 18446744073709551615 := by omega
  go_enter Tryd.func73, Tryd.ntmps73
  go_upto_block 0 with ((go_at_call 103; refine (lz64 y _ c1 c3).mono ?_; rintro e w1 ⟨rfl, rfl⟩))
  simp only [hq]
  go_cut [15] (fun v wx => v = .int .u64 Q ∧ w = wx)
  case first =>
    go_wp2_with fail
    go_loop [15, 16] (fun v t => ∃ q r : Int, v = .int .u64 q ∧ t = .int .u64 r ∧ Guess u u1 y1 y0 q r) (fun v _ => (intOf v).toNat)
    case atStart => exact ⟨q, r, rfl, rfl, hg.out⟩
    case round =>
      obtain ⟨q, r, rfl, rfl, hgg⟩ := hrel
      have ⟨g0, g1, g2, g3, _, _⟩ := hgg
      obtain ⟨t, ht⟩ : ∃ t, IntKind.u64.wrap (q * y0) = t := ⟨_, rfl⟩
      have HT : Hid (t = q * y0) := by rw [← ht]; exact guess_t hd.out hgg
      have HG := Lib.hid hgg; clear hgg
      by_cases k1 : 4294967296 ≤ q
      · by_cases k2 : 4294967296 ≤ r + y1
        · go_wp2
          go_meet
          exact ⟨by rw [guess_break hd.out HG.out (.inl k1) k2, hQ.out], rfl⟩
        · go_wp2
          go_round
          case rel => exact ⟨q - 1, r + y1, rfl, rfl, guess_next hd.out HG.out (.inl k1) (by omega)⟩
          case measure => simp [intOf]; omega
      · by_cases k3 : 4294967296 * r + u1 < t
        · have hc : Hid (4294967296 ≤ q ∨ 4294967296 * r + u1 < q * y0) := .inr (by rw [← HT.out]; exact k3)
          by_cases k4 : q = 0
          · exfalso
            have := guess_step hd.out HG.out hc.out
            have h0 : 0 ≤ (u * 4294967296 + u1) / (y1 * 4294967296 + y0) := Int.ediv_nonneg (by omega) (by omega)
            omega
          by_cases k2 : 4294967296 ≤ r + y1
          · go_wp2
            go_meet
            exact ⟨by rw [guess_break hd.out HG.out hc.out k2, hQ.out], rfl⟩
          · go_wp2
            go_round
            case rel => exact ⟨q - 1, r + y1, rfl, rfl, guess_next hd.out HG.out hc.out (by omega)⟩
            case measure => simp [intOf]; omega
        · go_wp2
          go_meet
          exact ⟨by rw [guess_eq hd.out HG.out.eq HG.out.le (by rw [← HT.out]; omega), hQ.out], rfl⟩
  case rest =>
    obtain ⟨rfl, rfl⟩ := hcut
    go_upto_block 2 with fail
    simp only [hq']
    go_cut [18] (fun v wx => v = .int .u64 Q' ∧ w = wx)
    case first =>
      go_wp2_with fail
      go_loop [18, 16] (fun x t => ∃ q r : Int, x = .int .u64 q ∧ t = .int .u64 r ∧ Guess v u0 y1 y0 q r) (fun x _ => (intOf x).toNat)
      case atStart => exact ⟨q', r', rfl, rfl, hg'.out⟩
      case round =>
        obtain ⟨q, r, rfl, rfl, hgg⟩ := hrel
        have ⟨g0, g1, g2, g3, _, _⟩ := hgg
        obtain ⟨t, ht⟩ : ∃ t, IntKind.u64.wrap (q * y0) = t := ⟨_, rfl⟩
        have HT : Hid (t = q * y0) := by rw [← ht]; exact guess_t hd'.out hgg
        have HG := Lib.hid hgg; clear hgg
        by_cases k1 : 4294967296 ≤ q
        · by_cases k2 : 4294967296 ≤ r + y1
          · go_wp2
            go_meet
            exact ⟨by rw [guess_break hd'.out HG.out (.inl k1) k2, hQ'.out], rfl⟩
          · go_wp2
            go_round
            case rel => exact ⟨q - 1, r + y1, rfl, rfl, guess_next hd'.out HG.out (.inl k1) (by omega)⟩
            case measure => simp [intOf]; omega
        · by_cases k3 : 4294967296 * r + u0 < t
          · have hc : Hid (4294967296 ≤ q ∨ 4294967296 * r + u0 < q * y0) := .inr (by rw [← HT.out]; exact k3)
            by_cases k4 : q = 0
            · exfalso
              have := guess_step hd'.out HG.out hc.out
              have h0 : 0 ≤ (v * 4294967296 + u0) / (y1 * 4294967296 + y0) := Int.ediv_nonneg (by omega) (by omega)
              omega
            by_cases k2 : 4294967296 ≤ r + y1
            · go_wp2
              go_meet
              exact ⟨by rw [guess_break hd'.out HG.out hc.out k2, hQ'.out], rfl⟩
            · go_wp2
              go_round
              case rel => exact ⟨q - 1, r + y1, rfl, rfl, guess_next hd'.out HG.out hc.out (by omega)⟩
              case measure => simp [intOf]; omega
          · go_wp2
            go_meet
            exact ⟨by rw [guess_eq hd'.out HG.out.eq HG.out.le (by rw [← HT.out]; omega), hQ'.out], rfl⟩
    case rest =>
      obtain ⟨rfl, rfl⟩ := hcut
      go_wp2
      go_ret2
      exact ⟨by simp, 0, rfl⟩
end Go.Proofs.YtnefacnceemklaaDoor

/-
  math/bits.Div64 and wide.Div, for every argument.
-/
namespace Go.Proofs.YtnefacnceemklaaDoor
open Go.RowKit Go.Shelf

theorem and_low (x : Int) (h0 : 0 ≤ x) (h1 : x < 18446744073709551616) : bits .and .u64 x 4294967295 = x % 4294967296 := by
  obtain ⟨n, rfl⟩ := Int.eq_ofNat_of_zero_le h0
  have := u64_and_nat n 4294967295 (by omega) (by decide)
  rw [show (4294967295 : Int) = ((4294967295 : Nat) : Int) from rfl, this, show (4294967295 : Nat) = 2 ^ 32 - 1 from rfl, Nat.and_two_pow_sub_one_eq_mod]
  rfl

/-- The two steps. -/
theorem steps (u u1 u0 Y : Int) (hY : 0 < Y) :
    (u * 4294967296 + u1) / Y * 4294967296 + ((u * 4294967296 + u1) % Y * 4294967296 + u0) / Y = ((u * 4294967296 + u1) * 4294967296 + u0) / Y ∧
    ((u * 4294967296 + u1) % Y * 4294967296 + u0) % Y = ((u * 4294967296 + u1) * 4294967296 + u0) % Y := by
  generalize u * 4294967296 + u1 = n
  have h := Int.mul_ediv_add_emod n Y
  have e : n * 4294967296 + u0 = (n % Y * 4294967296 + u0) + Y * (n / Y * 4294967296) := by
    rw [← Int.mul_assoc]
    generalize Y * (n / Y) = z at *
    omega
  rw [e]
  exact ⟨by rw [Int.add_mul_ediv_left _ _ (by omega)]; omega, by rw [Int.add_mul_emod_self_left]⟩

theorem div64_any (hi lo y : Int) (h1 : Word hi) (h2 : Word lo) (h3 : Word y) (hlt : hi < y) (w : World) :
    Calls Tryd.prog 73 #[.int .u64 hi, .int .u64 lo, .int .u64 y] w fun e w' => e = .returned (.tuple #[.int .u64 (val hi lo / y), .int .u64 (val hi lo % y)]) ∧ ∃ n, w' = w.drewN n := by
  by_cases h0 : hi = 0
  · subst h0
    have e : val 0 lo = lo := by unfold val; omega
    rw [e]
    exact div64_small lo y h2 h3 hlt w
  have h0 : 0 < hi := by have := h1.1; omega
  obtain ⟨yn, rfl⟩ := Int.eq_ofNat_of_zero_le h3.1
  obtain ⟨l1, l2, l3⟩ := bitLen_bd yn (by have := h3.2; omega)
  have l2 := l2 (by omega)
  have l4 : 0 < Lib.bitLen yn := by
    rcases Nat.eq_zero_or_pos (Lib.bitLen yn) with h | h
    · rw [h] at l1; omega
    · exact h
  obtain ⟨s, hs⟩ : ∃ s : Int, 64 - (Lib.bitLen yn : Int) = s := ⟨_, rfl⟩
  have hs0 : 0 ≤ s := by omega
  have hs1 : s < 64 := by omega
  have hp := pw_pos s
  have hsp : pw s * ((2 ^ Lib.bitLen yn : Nat) : Int) = 18446744073709551616 := by
    have := pw_split s hs0 (by omega)
    rw [show (64 - s) = (Lib.bitLen yn : Int) by omega] at this
    exact this
  have y1 : (yn : Int) < ((2 ^ Lib.bitLen yn : Nat) : Int) := by exact Int.ofNat_lt.2 l1
  have y2 : ((2 ^ Lib.bitLen yn : Nat) : Int) ≤ 2 * (yn : Int) := by have := Int.ofNat_le.2 l2; omega
  generalize ((2 ^ Lib.bitLen yn : Nat) : Int) = b at *
  have Y1 : pw s * (yn : Int) < 18446744073709551616 := by rw [← hsp]; exact Int.mul_lt_mul_of_pos_left y1 hp
  have Y2 : 9223372036854775808 ≤ pw s * (yn : Int) := by
    have := Int.mul_le_mul_of_nonneg_left y2 (Int.le_of_lt hp)
    rw [hsp, ← Int.mul_assoc, Int.mul_comm (pw s) 2, Int.mul_assoc] at this
    omega
  obtain ⟨w1, w2⟩ := shl_words hi lo s h1 h2 hs0 (by omega)
  have hv : val hi lo < yn * 18446744073709551616 := by have := h2.2; unfold val; omega
  have hv0 : 0 ≤ val hi lo := (val_bd h1 h2).1
  have hvp0 : 0 ≤ val hi lo * pw s := Int.mul_nonneg hv0 (Int.le_of_lt hp)
  have hvp : val hi lo * pw s < pw s * yn * 18446744073709551616 := by
    have := Int.mul_lt_mul_of_pos_right hv hp
    rw [Int.mul_comm (pw s), Int.mul_assoc, Int.mul_comm (pw s), ← Int.mul_assoc]; exact this
  have q1 : val hi lo / (yn : Int) = (val hi lo * pw s) / (pw s * yn) := by
    rw [Int.mul_comm (pw s) yn, Int.mul_ediv_mul_of_pos_left _ _ hp]
  have q2 : val hi lo % (yn : Int) = (val hi lo * pw s) % (pw s * yn) / pw s := by
    rw [Int.mul_comm (pw s) yn, Int.mul_comm (val hi lo), Int.mul_comm (yn : Int) (pw s), Int.mul_emod_mul_of_pos _ _ hp, Int.mul_ediv_cancel_left _ (Int.ne_of_gt hp)]
  have hY : IntKind.u64.wrap ((yn : Int) * pw s) = pw s * yn := by
    rw [IntKind.wrap_u64, Int.mul_comm, Int.emod_eq_of_lt (by omega) Y1]
  generalize hYY : pw s * (yn : Int) = Y at *
  have m1 : val hi lo * pw s % 340282366920938463463374607431768211456 = val hi lo * pw s := Int.emod_eq_of_lt hvp0 (by omega)
  rw [m1] at w1 w2
  rw [q1, q2]
  generalize hN : val hi lo * pw s = n at *
  obtain ⟨u, hu⟩ : ∃ u, n / 18446744073709551616 = u := ⟨_, rfl⟩
  obtain ⟨L, hL⟩ : ∃ L, n % 18446744073709551616 = L := ⟨_, rfl⟩
  rw [hu] at w1
  rw [hL] at w2
  have hn : n = (u * 4294967296 + L / 4294967296) * 4294967296 + L % 4294967296 := by omega
  have hYd : Y / 4294967296 * 4294967296 + Y % 4294967296 = Y := by omega
  have d : Digits u (L / 4294967296) (Y / 4294967296) (Y % 4294967296) := ⟨by omega, by omega, by omega, by omega, by omega, by omega, by omega, by omega⟩
  obtain ⟨g1, g2⟩ := guess_first d
  have hqlt := d.lt
  have st := steps u (L / 4294967296) (L % 4294967296) Y (by omega)
  rw [← hn] at st
  have em := Int.mul_ediv_add_emod (u * 4294967296 + L / 4294967296) Y
  have e0 := Int.emod_nonneg (u * 4294967296 + L / 4294967296) (by omega : Y ≠ 0)
  have e1 := Int.emod_lt_of_pos (u * 4294967296 + L / 4294967296) (by omega : 0 < Y)
  have Q0 : 0 ≤ (u * 4294967296 + L / 4294967296) / Y := Int.ediv_nonneg (by omega) (by omega)
  rw [hYd] at hqlt
  have hvv : IntKind.u64.wrap (IntKind.u64.wrap (IntKind.u64.wrap (u * 4294967296) + L / 4294967296) - IntKind.u64.wrap ((u * 4294967296 + L / 4294967296) / Y * Y)) = (u * 4294967296 + L / 4294967296) % Y := by
    rw [IntKind.wrap_u64, IntKind.wrap_u64, IntKind.wrap_u64, IntKind.wrap_u64, Int.mul_comm ((u * 4294967296 + L / 4294967296) / Y) Y]
    generalize Y * ((u * 4294967296 + L / 4294967296) / Y) = z at *
    omega
  generalize hv2 : (u * 4294967296 + L / 4294967296) % Y = v at *
  have d' : Digits v (L % 4294967296) (Y / 4294967296) (Y % 4294967296) := ⟨by omega, by omega, by omega, by omega, by omega, by omega, by omega, by omega⟩
  obtain ⟨g1', g2'⟩ := guess_first d'
  have hqlt' := d'.lt
  rw [hYd] at hqlt'
  have em' := Int.mul_ediv_add_emod (v * 4294967296 + L % 4294967296) Y
  have e0' := Int.emod_nonneg (v * 4294967296 + L % 4294967296) (by omega : Y ≠ 0)
  have e1' := Int.emod_lt_of_pos (v * 4294967296 + L % 4294967296) (by omega : 0 < Y)
  have Q0' : 0 ≤ (v * 4294967296 + L % 4294967296) / Y := Int.ediv_nonneg (by omega) (by omega)
  have hA : IntKind.u64.wrap (IntKind.u64.wrap ((u * 4294967296 + L / 4294967296) / Y * 4294967296) + (v * 4294967296 + L % 4294967296) / Y) = n / Y := by
    rw [← st.1, IntKind.wrap_u64, IntKind.wrap_u64]
    generalize (u * 4294967296 + L / 4294967296) / Y = a at *
    generalize (v * 4294967296 + L % 4294967296) / Y = c at *
    omega
  have hR : IntKind.u64.wrap (IntKind.u64.wrap (IntKind.u64.wrap (v * 4294967296) + L % 4294967296) - IntKind.u64.wrap ((v * 4294967296 + L % 4294967296) / Y * Y)) / pw s = n % Y / pw s := by
    rw [← st.2]
    congr 1
    rw [IntKind.wrap_u64, IntKind.wrap_u64, IntKind.wrap_u64, IntKind.wrap_u64, Int.mul_comm ((v * 4294967296 + L % 4294967296) / Y) Y]
    generalize Y * ((v * 4294967296 + L % 4294967296) / Y) = z at *
    omega
  have k1 : 0 < Y := by omega
  have k2 : Y < 18446744073709551616 := by omega
  have k3 : 0 ≤ u ∧ u < 18446744073709551616 := by omega
  have k4 : 0 ≤ L ∧ L < 18446744073709551616 := by omega
  have k5 := d.b1; have k6 := d.b2; have k7 := d.b3; have k8 := d.b4; have k9 := d.b7; have k10 := d.b8; have k11 := d'.b7; have k12 := d'.b8
  refine div64_big hi lo yn s Y (Y / 4294967296) (Y % 4294967296) u L (L / 4294967296) (L % 4294967296) h1 h2 h3 hlt h0 hs0 hs1 hs (by rw [pw_eq]; exact hY) rfl (and_low Y (by omega) k2) (by rw [pw_eq, pw_eq]; exact w1) (by rw [pw_eq]; exact w2) rfl (and_low L k4.1 k4.2)
    k5 k6 k7 k8 k3.1 k3.2 k9 k10 k11 k12 _ _ _ rfl g2 (by rw [hYd]; exact rfl) g1 d v hvv e0 (by omega) _ _ _ rfl g2' (by rw [hYd]; exact rfl) g1' d' _ _ hA ?_ w
  rw [pw_eq]; exact hR
end Go.Proofs.YtnefacnceemklaaDoor

/-
  The walks of package wide: Times, Drop.
-/
namespace Go.Proofs.YtnefacnceemklaaDoor
open Go.RowKit Go.Shelf

set_option maxHeartbeats 400000 in
theorem mul_exact (x y : Int) (h1 : Word x) (h2 : Word y) (w : World) :
    Calls Tryd.prog 61 #[.int .u64 x, .int .u64 y] w fun e w' => e = .returned (.agg #[.int .u64 (x * y / 18446744073709551616), .int .u64 (x * y % 18446744073709551616)]) ∧ ∃ c, w' = w.alloc (.cells c 44) := by
  have H1 := Lib.hid h1; have H2 := Lib.hid h2; clear h1 h2
  go_enter Tryd.func61, Tryd.ntmps61
  go_wp2_with (go_at_call 96; refine (mul64 x y H1.out H2.out _).mono ?_; rintro e w' ⟨rfl, rfl⟩)
  simp [bodyPost, results, Tryd.results61, go_sem]
  exact ⟨_, rfl⟩

theorem mul_vars (x y hi lo : Int) (h1 : Word x) (h2 : Word y) (e1 : x * y / 18446744073709551616 = hi) (e2 : x * y % 18446744073709551616 = lo) (w : World) :
    Calls Tryd.prog 61 #[.int .u64 x, .int .u64 y] w fun e w' => e = .returned (.agg #[.int .u64 hi, .int .u64 lo]) ∧ ∃ c, w' = w.alloc (.cells c 44) := by
  subst e1; subst e2; exact mul_exact x y h1 h2 w

/-- The number of three words. -/
def val3 (h m l : Int) : Int := h * 340282366920938463463374607431768211456 + m * 18446744073709551616 + l
/-- What Times answers. -/
def U192Post (s : Int) (w : World) (e : Ending) (w' : World) : Prop :=
  ∃ h m l : Int, e = .returned (.agg #[.int .u64 h, .int .u64 m, .int .u64 l]) ∧ Word h ∧ Word m ∧ Word l ∧ val3 h m l = s ∧ Below w.heap.size w w'
theorem times_mk (h l b lh ll hh hl : Int) (h1 : Word h) (h2 : Word l) (h3 : Word b) (e1 : l * b / 18446744073709551616 = lh) (e2 : l * b % 18446744073709551616 = ll) (e3 : h * b / 18446744073709551616 = hh) (e4 : h * b % 18446744073709551616 = hl) (w w' : World) (hb : Below w.heap.size w w') :
    U192Post (val h l * b) w (.returned (.agg #[.int .u64 (hh + (lh + hl) / 18446744073709551616), .int .u64 ((lh + hl) % 18446744073709551616), .int .u64 ll])) w' := by
  have k1 := mul_bd h b h1 h3
  have k2 := mul_bd l b h2 h3
  have e : val h l * b = (h * b) * 18446744073709551616 + l * b := by
    unfold val; rw [Int.add_mul, Int.mul_assoc, Int.mul_comm 18446744073709551616 b, ← Int.mul_assoc]
  rw [e]
  generalize h * b = x at *
  generalize l * b = y at *
  clear e
  subst e1; subst e2; subst e3; subst e4
  refine ⟨_, _, _, rfl, ?_, ?_, ?_, ?_, hb⟩
  · unfold Word; omega
  · unfold Word; omega
  · unfold Word; omega
  · unfold val3; omega
theorem times_sum (h b lh hl hh : Int) (l : Int) (h1 : Word h) (h2 : Word l) (h3 : Word b) (e1 : l * b / 18446744073709551616 = lh) (e3 : h * b / 18446744073709551616 = hh) (e4 : h * b % 18446744073709551616 = hl) :
    0 ≤ lh ∧ 0 ≤ hl ∧ 0 ≤ hh ∧ hh ≤ 18446744073709551614 ∧ 0 ≤ (lh + hl) / 18446744073709551616 ∧ (lh + hl) / 18446744073709551616 ≤ 1 := by
  have k1 := mul_bd h b h1 h3
  have k2 := mul_bd l b h2 h3
  generalize h * b = x at *
  generalize l * b = y at *
  omega

end Go.Proofs.YtnefacnceemklaaDoor

/-
  The walks of wide.Div and wide.Root.
-/
namespace Go.Proofs.YtnefacnceemklaaDoor
open Go.RowKit Go.Shelf

set_option maxHeartbeats 400000 in
theorem div_zero (h l : Int) (w : World) :
    Calls Tryd.prog 36 #[.agg #[.int .u64 h, .int .u64 l], .int .u64 0] w fun e w' => e = .returned (.tuple #[.agg #[.int .u64 0, .int .u64 0], .int .u64 0, .int .i64 10]) ∧ Below w.heap.size w w' := by
  go_enter Tryd.func36, Tryd.ntmps36
  go_wp2
  simp [bodyPost, results, Tryd.results36, go_sem]
  exact (((Below.refl _ _).alloc (Nat.le_refl _) _).alloc (by simp) _)

/-- What Div answers. -/
def DivPost (v b : Int) (w : World) (e : Ending) (w' : World) : Prop :=
  ∃ h l r : Int, e = .returned (.tuple #[.agg #[.int .u64 h, .int .u64 l], .int .u64 r, .int .i64 0]) ∧ Word h ∧ Word l ∧ Word r ∧ val h l = v / b ∧ r = v % b ∧ Below w.heap.size w w'
theorem div_words (h l b : Int) (h1 : Word h) (h2 : Word l) (h3 : Word b) (hb : 0 < b) :
    Word (h % b) ∧ h % b < b ∧ Word (h / b) ∧ Word (val (h % b) l / b) ∧ Word (val (h % b) l % b) ∧ val (h / b) (val (h % b) l / b) = val h l / b ∧ val (h % b) l % b = val h l % b := by
  unfold Word at *
  have e := Int.mul_ediv_add_emod h b
  have m0 := Int.emod_nonneg h (by omega : b ≠ 0)
  have m1 := Int.emod_lt_of_pos h hb
  have e2 : val h l = val (h % b) l + b * (h / b * 18446744073709551616) := by
    unfold val
    rw [← Int.mul_assoc]
    generalize b * (h / b) = z at *
    omega
  have q0 : 0 ≤ h / b := Int.ediv_nonneg h1.1 (by omega)
  have q1 := Int.ediv_le_self b h1.1
  have v0 : 0 ≤ val (h % b) l := by unfold val; omega
  have v1 : val (h % b) l < b * 18446744073709551616 := by unfold val; omega
  have q2 : 0 ≤ val (h % b) l / b := Int.ediv_nonneg v0 (by omega)
  have q3 : val (h % b) l / b < 18446744073709551616 := Int.ediv_lt_of_lt_mul hb (by rw [Int.mul_comm]; exact v1)
  have r0 := Int.emod_nonneg (val (h % b) l) (by omega : b ≠ 0)
  have r1 := Int.emod_lt_of_pos (val (h % b) l) hb
  refine ⟨by omega, by omega, by omega, by omega, by omega, ?_, ?_⟩
  · rw [e2, Int.add_mul_ediv_left _ _ (by omega)]; show _ * _ + _ = _; omega
  · rw [e2, Int.add_mul_emod_self_left]
theorem div_mk (h l b x y r : Int) (h1 : Word h) (h2 : Word l) (h3 : Word b) (hb : 0 < b) (hx : h / b = x) (hy : val (h % b) l / b = y) (hr : val (h % b) l % b = r) (w w' : World) (hb' : Below w.heap.size w w') :
    DivPost (val h l) b w (.returned (.tuple #[.agg #[.int .u64 x, .int .u64 y], .int .u64 r, .int .i64 0])) w' := by
  subst hx; subst hy; subst hr
  obtain ⟨a1, a2, a3, a4, a5, a6, a7⟩ := div_words h l b h1 h2 h3 hb
  exact ⟨_, _, _, rfl, a3, a4, a5, a6, a7, hb'⟩
theorem div64_vars (hi lo y q r : Int) (h1 : Word hi) (h2 : Word lo) (h3 : Word y) (hlt : hi < y) (hq : val hi lo / y = q) (hr : val hi lo % y = r) (w : World) :
    Calls Tryd.prog 73 #[.int .u64 hi, .int .u64 lo, .int .u64 y] w fun e w' => e = .returned (.tuple #[.int .u64 q, .int .u64 r]) ∧ ∃ n, w' = w.drewN n := by
  subst hq; subst hr; exact div64_any hi lo y h1 h2 h3 hlt w

set_option maxHeartbeats 1000000 in
theorem div_any (h l b : Int) (h1 : Word h) (h2 : Word l) (h3 : Word b) (hb : 0 < b) (w : World) :
    Calls Tryd.prog 36 #[.agg #[.int .u64 h, .int .u64 l], .int .u64 b] w (DivPost (val h l) b w) := by
  obtain ⟨x, hx⟩ : ∃ x, h / b = x := ⟨_, rfl⟩
  obtain ⟨m, hm⟩ : ∃ x, h % b = x := ⟨_, rfl⟩
  obtain ⟨y, hy⟩ : ∃ x, val (h % b) l / b = x := ⟨_, rfl⟩
  obtain ⟨r, hr⟩ : ∃ x, val (h % b) l % b = x := ⟨_, rfl⟩
  obtain ⟨a1, a2, a3, a4, a5, a6, a7⟩ := div_words h l b h1 h2 h3 hb
  have Hm := Lib.hid (div_mk h l b x y r h1 h2 h3 hb hx hy hr)
  rw [hm] at a1 a2 hy hr
  have Hd := Lib.hid (div64_vars m l b y r a1 h2 h3 a2 hy hr)
  obtain ⟨c1, c2⟩ := h1; obtain ⟨d1, d2⟩ := h2; obtain ⟨f1, f2⟩ := h3
  have hb0 : (b == 0) = false := by simp; omega
  clear a1 a2 a3 a4 a5 a6 a7 hy hr
  go_enter Tryd.func36, Tryd.ntmps36
  go_wp2
  go_quiet ((go_at_call 73; refine Calls.quiet_of (Hd.out _)))
  have e0 : (((w.alloc (.cells #[.int .u64 h, .int .u64 l] 44)).alloc (.cells #[.int .u64 0, .int .u64 0] 44)).drewN nq).cell? ⟨w.heap.size + 1, 0, none⟩ = some (.int .u64 0) := by simp [go_sem]
  have e1 : (((w.alloc (.cells #[.int .u64 h, .int .u64 l] 44)).alloc (.cells #[.int .u64 0, .int .u64 0] 44)).drewN nq).cell? ⟨w.heap.size + 1, 1, none⟩ = some (.int .u64 0) := by simp [go_sem]
  go_wp2
  simp [bodyPost, results, Tryd.results36, go_sem, e0, e1]
  refine Hm.out _ _ ?_
  exact ((below_drewN (((Below.refl _ _).alloc (Nat.le_refl _) _).alloc (by simp) _) nq).setCell (by simp) _).setCell (by simp) _

/-! ### Root -/
theorem or_bit (x n : Int) (h0 : 0 ≤ x) (h1 : x < 18446744073709551616) (hn0 : 0 ≤ n) (hn1 : n < 64) (hx : x % pw (n + 1) = 0) (hw : IntKind.u64.wrap (pw n) = pw n) : bits .or .u64 x (IntKind.u64.wrap (pw n)) = x + pw n := by
  rw [hw]
  have hp := pw_add n 1 hn0 (by decide)
  have hlt : pw n < 18446744073709551616 := by
    have := pw_split n hn0 (by omega)
    have hq := pw_pos (64 - n)
    have h2 : 2 ≤ pw (64 - n) := by
      rw [show 64 - n = (63 - n) + 1 by omega, pw_add _ _ (by omega) (by omega)]
      have := pw_pos (63 - n); rw [show pw 1 = 2 from rfl]; omega
    have := Int.mul_le_mul_of_nonneg_left h2 (Int.le_of_lt (pw_pos n))
    have := pw_pos n
    omega
  obtain ⟨m, rfl⟩ := Int.eq_ofNat_of_zero_le h0
  obtain ⟨k, rfl⟩ := Int.eq_ofNat_of_zero_le hn0
  have e : pw (k : Int) = ((2 ^ k : Nat) : Int) := rfl
  rw [e] at hlt ⊢
  rw [u64_or_nat _ _ (by omega) (by omega), Plain.nat_join (k + 1) m (2 ^ k) ?_ (Nat.pow_lt_pow_right (by decide) (by omega))]
  · rfl
  · have e2 : pw ((k : Int) + 1) = ((2 ^ (k + 1) : Nat) : Int) := rfl
    rw [e2] at hx
    exact Int.ofNat.inj hx

/-- What Root answers. -/
def RootPost (v : Int) (w : World) (e : Ending) (w' : World) : Prop :=
  ∃ r : Int, ∃ o : Bool, e = .returned (.tuple #[.int .u64 r, .bool o]) ∧ Word r ∧ r * r ≤ v ∧ v < (r + 1) * (r + 1) ∧ (o = true ↔ r * r = v) ∧ Below w.heap.size w w'

/-- What holds of the root so far, at the head of round k. -/
structure RootAt (v : Int) (k : Int) (r : Int) : Prop where
  w : Word r
  d : r % pw (64 - k) = 0
  lo : r * r ≤ v
  hi : v < (r + pw (64 - k)) * (r + pw (64 - k))

/-- Cmp's answer. -/
def cmpI (a b : Int) : Int := if a < b then -1 else if a = b then 0 else 1
theorem cmpI_le (a b : Int) : cmpI a b ≤ 0 ↔ a ≤ b := by unfold cmpI; split <;> (try split) <;> omega
set_option maxHeartbeats 400000 in
theorem cmp_exact (ah al bh bl : Int) (h1 : Word ah) (h2 : Word al) (h3 : Word bh) (h4 : Word bl) (w : World) :
    Calls Tryd.prog 85 #[.agg #[.int .u64 ah, .int .u64 al], .agg #[.int .u64 bh, .int .u64 bl]] w fun e w' => e = .returned (.int .i64 (cmpI (val ah al) (val bh bl))) ∧ ∃ c1 c2, w' = (w.alloc (.cells c1 44)).alloc (.cells c2 44) := by
  obtain ⟨a1, a2⟩ := h1; obtain ⟨b1, b2⟩ := h2; obtain ⟨c1, c2⟩ := h3; obtain ⟨d1, d2⟩ := h4
  by_cases e1 : ah = bh
  · subst e1
    by_cases e2 : al = bl
    · subst e2
      have E : Hid ((0 : Int) = cmpI (val ah al) (val ah al)) := by unfold Hid cmpI; simp
      go_enter Tryd.func85, Tryd.ntmps85
      go_wp2
      go_ret
      exact ⟨congrArg (fun z => Ending.returned (.int .i64 z)) E.out, _, _, rfl⟩
    · by_cases e3 : al < bl
      · have E : Hid ((-1 : Int) = cmpI (val ah al) (val ah bl)) := by unfold Hid cmpI; rw [if_pos (by unfold val; omega)]
        go_enter Tryd.func85, Tryd.ntmps85
        go_wp2
        go_ret
        exact ⟨congrArg (fun z => Ending.returned (.int .i64 z)) E.out, _, _, rfl⟩
      · have E : Hid ((1 : Int) = cmpI (val ah al) (val ah bl)) := by unfold Hid cmpI; rw [if_neg (by unfold val; omega), if_neg (by unfold val; omega)]
        go_enter Tryd.func85, Tryd.ntmps85
        go_wp2
        go_ret
        exact ⟨congrArg (fun z => Ending.returned (.int .i64 z)) E.out, _, _, rfl⟩
  · by_cases e3 : ah < bh
    · have E : Hid ((-1 : Int) = cmpI (val ah al) (val bh bl)) := by unfold Hid cmpI; rw [if_pos (by unfold val; omega)]
      go_enter Tryd.func85, Tryd.ntmps85
      go_wp2
      go_ret
      exact ⟨congrArg (fun z => Ending.returned (.int .i64 z)) E.out, _, _, rfl⟩
    · have E : Hid ((1 : Int) = cmpI (val ah al) (val bh bl)) := by unfold Hid cmpI; rw [if_neg (by unfold val; omega), if_neg (by unfold val; omega)]
      go_enter Tryd.func85, Tryd.ntmps85
      go_wp2
      go_ret
      exact ⟨congrArg (fun z => Ending.returned (.int .i64 z)) E.out, _, _, rfl⟩
theorem cmp_vars (ah al bh bl c : Int) (h1 : Word ah) (h2 : Word al) (h3 : Word bh) (h4 : Word bl) (hc : cmpI (val ah al) (val bh bl) = c) (w : World) :
    Calls Tryd.prog 85 #[.agg #[.int .u64 ah, .int .u64 al], .agg #[.int .u64 bh, .int .u64 bl]] w fun e w' => e = .returned (.int .i64 c) ∧ ∃ c1 c2, w' = (w.alloc (.cells c1 44)).alloc (.cells c2 44) := by
  subst hc; exact cmp_exact ah al bh bl h1 h2 h3 h4 w

theorem root_bit {v k r : Int} (h0 : 0 ≤ k) (h1 : k < 64) (a : RootAt v k r) : bits .or .u64 r (IntKind.u64.wrap (pw (63 - k))) = r + pw (63 - k) ∧ Word (r + pw (63 - k)) := by
  have hp := pw_pos (63 - k)
  have e2 : pw (64 - k) = 2 * pw (63 - k) := by rw [show 64 - k = (63 - k) + 1 by omega, pw_add _ _ (by omega) (by decide), show pw 1 = 2 from rfl]; omega
  have hs := pw_split (64 - k) (by omega) (by omega)
  have hq := pw_pos (64 - (64 - k))
  have d := a.d
  have w0 := a.w.1
  have w1 := a.w.2
  have e3 := Int.mul_ediv_add_emod r (pw (64 - k))
  rw [d] at e3
  have hlt : r / pw (64 - k) < pw (64 - (64 - k)) := by
    apply Int.ediv_lt_of_lt_mul (by omega)
    rw [Int.mul_comm, hs]; exact w1
  have hle := Int.mul_le_mul_of_nonneg_left (show r / pw (64 - k) + 1 ≤ pw (64 - (64 - k)) by omega) (show 0 ≤ pw (64 - k) by omega)
  rw [Int.mul_add, hs] at hle
  have hw : IntKind.u64.wrap (pw (63 - k)) = pw (63 - k) := by rw [IntKind.wrap_u64, Int.emod_eq_of_lt (by omega) (by omega)]
  exact ⟨or_bit r (63 - k) w0 w1 (by omega) (by omega) (by rw [show 63 - k + 1 = 64 - k by omega]; exact d) hw, by omega, by omega⟩
theorem root_step {v k r : Int} (h0 : 0 ≤ k) (h1 : k < 64) (a : RootAt v k r) :
    ((r + pw (63 - k)) * (r + pw (63 - k)) ≤ v → RootAt v (k + 1) (r + pw (63 - k))) ∧ (v < (r + pw (63 - k)) * (r + pw (63 - k)) → RootAt v (k + 1) r) := by
  have hw := (root_bit h0 h1 a).2
  have e2 : pw (64 - k) = pw (63 - k) + pw (63 - k) := by rw [show 64 - k = (63 - k) + 1 by omega, pw_add _ _ (by omega) (by decide), show pw 1 = 2 from rfl]; omega
  have e1 : 64 - (k + 1) = 63 - k := by omega
  have d : r % pw (63 - k) = 0 := by
    have := Int.mul_ediv_add_emod r (pw (64 - k))
    rw [a.d, e2] at this
    rw [← this, Int.add_mul]
    simp
  refine ⟨fun h => ⟨hw, ?_, h, ?_⟩, fun h => ⟨a.w, ?_, a.lo, ?_⟩⟩
  · rw [e1]; rw [Int.add_emod_right]; exact d
  · rw [e1, Int.add_assoc, ← e2]; exact a.hi
  · rw [e1]; exact d
  · rw [e1]; exact h
theorem root_start (v : Int) (h0 : 0 ≤ v) (h1 : v < 340282366920938463463374607431768211456) : RootAt v 0 0 :=
  ⟨⟨by decide, by decide⟩, by simp, by omega, by rw [show pw (64 - 0) = 18446744073709551616 from rfl]; omega⟩
theorem sq_val (x y h l : Int) (hx : x * x / 18446744073709551616 = h) (hy : x * x % 18446744073709551616 = l) (_ : y = 0) : val h l = x * x := by
  unfold val; generalize x * x = z at *; omega
theorem sq_words (x : Int) (h : Word x) : Word (x * x / 18446744073709551616) ∧ Word (x * x % 18446744073709551616) ∧ val (x * x / 18446744073709551616) (x * x % 18446744073709551616) = x * x := by
  have := mul_bd x x h h
  unfold val Word
  generalize x * x = z at *
  omega

set_option maxHeartbeats 1000000 in
theorem root_any (h l : Int) (h1 : Word h) (h2 : Word l) (w : World) :
    Calls Tryd.prog 47 #[.agg #[.int .u64 h, .int .u64 l]] w (RootPost (val h l) w) := by
  have hb := val_bd h1 h2
  have H0 := Lib.hid (root_start _ hb.1 hb.2)
  have H1 := Lib.hid h1; have H2 := Lib.hid h2; clear h1 h2 hb
  go_enter Tryd.func47, Tryd.ntmps47
  go_wp2
  go_loopw [4, 7] (fun x i wr => ∃ (k : Nat) (r : Int), k ≤ 64 ∧ i = .int .i64 (k : Int) ∧ x = .int .u64 r ∧ RootAt (val h l) k r ∧ wr.cell? ⟨w.heap.size, 0, none⟩ = some (.int .u64 h) ∧ wr.cell? ⟨w.heap.size, 1, none⟩ = some (.int .u64 l) ∧ Below w.heap.size w wr ∧ w.heap.size < wr.heap.size) (fun _ i _ => 64 - (intOf i).toNat)
  case atStart => exact ⟨0, 0, by omega, rfl, rfl, H0.out, by simp [go_sem], by simp [go_sem], (Below.refl _ _).alloc (Nat.le_refl _) _, by simp⟩
  case round =>
    obtain ⟨k, r, hk, rfl, rfl, hr, hc0, hc1, hbl, hsz⟩ := hrel
    have z1 : w.heap.size ≤ wr.heap.size := by omega
    have z2 : w.heap.size ≤ wr.heap.size + 1 := by omega
    have z3 : w.heap.size < wr.heap.size + 1 := by omega
    have z4 : w.heap.size < wr.heap.size + 1 + 1 := by omega
    have z5 : w.heap.size ≠ wr.heap.size := by omega
    have z6 : w.heap.size ≠ wr.heap.size + 1 := by omega
    have z7 : w.heap.size ≠ wr.heap.size + 1 + 1 := by omega
    by_cases hlt : k < 64
    · obtain ⟨w1, w2⟩ := root_bit (by omega) (by omega) hr
      have st := root_step (by omega) (by omega) hr
      obtain ⟨x, hx⟩ : ∃ x, r + pw (63 - (k : Int)) = x := ⟨_, rfl⟩
      rw [hx] at w2 st w1
      rw [← pw_eq, show (63 - (k : Int)).toNat = 63 - k by omega] at w1
      obtain ⟨s1, s2, s3⟩ := sq_words x w2
      obtain ⟨p, hp⟩ : ∃ z, x * x / 18446744073709551616 = z := ⟨_, rfl⟩
      obtain ⟨q, hq⟩ : ∃ z, x * x % 18446744073709551616 = z := ⟨_, rfl⟩
      rw [hp] at s1 s3; rw [hq] at s2 s3
      have Hp := Lib.hid hp; have Hq := Lib.hid hq; clear hp hq
      obtain ⟨c, hc⟩ : ∃ c, cmpI (x * x) (val h l) = c := ⟨_, rfl⟩
      have ci := cmpI_le (x * x) (val h l)
      rw [hc] at ci
      rw [← s3] at hc
      have Hc := Lib.hid hc; have Ci := Lib.hid ci; have St := Lib.hid st; have W2 := Lib.hid w2; have S1 := Lib.hid s1; have S2 := Lib.hid s2; have Hr := Lib.hid hr
      have Hbl := Lib.hid hbl
      clear hc ci st w2 s1 s2 s3 hx hr hbl
      by_cases hcc : c ≤ 0
      · go_wp2_with fail
        go_region_held3 (fun w' => w'.cell? ⟨w.heap.size, 0, none⟩ = some (.int .u64 h) ∧ w'.cell? ⟨w.heap.size, 1, none⟩ = some (.int .u64 l)) (simp [*, go_sem, World.cell?_alloc_past])
          (first
            | (go_at_call 61; refine (mul_vars x x p q W2.out W2.out Hp.out Hq.out _).mono ?_; rintro e w1 ⟨rfl, c1, rfl⟩)
            | (go_at_call 85; refine (cmp_vars p q h l c S1.out S2.out H1.out H2.out Hc.out _).mono ?_; rintro e w2 ⟨rfl, c2, c3, rfl⟩))
        go_wp2_with fail
        go_roundw
        case rel => exact ⟨k + 1, x, by omega, by go_num, rfl, (by simpa using St.out.1 (Ci.out.1 hcc)), by simp [*, go_sem], by simp [*, go_sem], by repeat (first | exact Hbl.out | refine Below.drew ?_ | refine Below.alloc ?_ (by first | omega | (simp; omega)) _), by simp; omega⟩
        case measure => simp [intOf]; omega
      · go_wp2_with fail
        go_region_held3 (fun w' => w'.cell? ⟨w.heap.size, 0, none⟩ = some (.int .u64 h) ∧ w'.cell? ⟨w.heap.size, 1, none⟩ = some (.int .u64 l)) (simp [*, go_sem])
          (first
            | (go_at_call 61; refine (mul_vars x x p q W2.out W2.out Hp.out Hq.out _).mono ?_; rintro e w1 ⟨rfl, c1, rfl⟩)
            | (go_at_call 85; refine (cmp_vars p q h l c S1.out S2.out H1.out H2.out Hc.out _).mono ?_; rintro e w2 ⟨rfl, c2, c3, rfl⟩))
        go_wp2_with fail
        go_roundw
        case rel => exact ⟨k + 1, r, by omega, by go_num, rfl, (by simpa using St.out.2 (by have := Ci.out; omega)), by simp [*, go_sem], by simp [*, go_sem], by repeat (first | exact Hbl.out | refine Below.drew ?_ | refine Below.alloc ?_ (by first | omega | (simp; omega)) _), by simp; omega⟩
        case measure => simp [intOf]; omega
    · have w2 := hr.w
      obtain ⟨s1, s2, s3⟩ := sq_words r w2
      obtain ⟨p, hp⟩ : ∃ z, r * r / 18446744073709551616 = z := ⟨_, rfl⟩
      obtain ⟨q, hq⟩ : ∃ z, r * r % 18446744073709551616 = z := ⟨_, rfl⟩
      rw [hp] at s1 s3; rw [hq] at s2 s3
      have hlo := hr.lo
      have hhi := hr.hi
      rw [show 64 - (k : Int) = 0 by omega, show pw 0 = 1 from rfl] at hhi
      have Hfin : Hid (∀ (o : Bool) (w' : World), (o = true ↔ (p = h ∧ q = l)) → Below w.heap.size w w' → RootPost (val h l) w (.returned (.tuple #[.int .u64 r, .bool o])) w') := by
        intro o w' ho hb'
        refine ⟨r, o, rfl, w2, hlo, hhi, ?_, hb'⟩
        rw [ho, ← s3]
        exact ⟨fun ⟨e1, e2⟩ => by rw [e1, e2], fun e => val_inj s1 s2 H1.out H2.out e⟩
      have Hp := Lib.hid hp; have Hq := Lib.hid hq; have W2 := Lib.hid w2; have Hbl := Lib.hid hbl
      clear hp hq w2 s1 s2 s3 hlo hhi hr hbl
      have Hc : Hid (∀ o : Bool, o = ((p == h) && (q == l)) → (o = true ↔ (p = h ∧ q = l))) := fun o ho => by subst ho; simp
      rcases Bool.eq_false_or_eq_true (p == h) with k1 | k1 <;> rcases Bool.eq_false_or_eq_true (q == l) with k2 | k2
      all_goals
        go_wp2_with fail
        go_region_held3 (fun w' => w'.cell? ⟨w.heap.size, 0, none⟩ = some (.int .u64 h) ∧ w'.cell? ⟨w.heap.size, 1, none⟩ = some (.int .u64 l)) (simp [*, go_sem])
          (first
            | (go_at_call 61; refine (mul_vars r r p q W2.out W2.out Hp.out Hq.out _).mono ?_; rintro e w1 ⟨rfl, c1, rfl⟩))
        go_wp2_with fail
        go_ret2
        exact Hfin.out _ _ (Hc.out _ (by rw [k1, k2]; rfl)) (by repeat (first | exact Hbl.out | refine Below.drew ?_ | refine Below.alloc ?_ (by first | omega | (simp; omega)) _))
end Go.Proofs.YtnefacnceemklaaDoor

