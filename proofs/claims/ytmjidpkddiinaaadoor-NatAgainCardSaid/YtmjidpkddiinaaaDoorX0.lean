import Derived.Test.YtmjidpkddiinaaaDoorRows
import Derived.Test.YtmjidpkddiinaaaDoorPlain
import Derived.Test.YtmjidpkddiinaaaDoorShelf
import Derived.Shelf.Spec.BitsCarry
import Derived.WalkKit
import Derived.WalkSpells
import Derived.WalkLawsBesides
import Derived.Lib.Hide
import Derived.BigRegion
import Derived.BigQuiet
import Derived.RegionTactic
import Derived.Deep.QuietTactic
import Derived.Deep.RegionHeld3
import Derived.Laws.BitsAllLaws
/-
  The walks of package wide (stage 2): what each of its functions answers, for every argument.
-/
namespace Go.Proofs.YtmjidpkddiinaaaDoor
open Go.RowKit Go.Shelf

theorem bcell {W w1 : World} (hb : Below W.heap.size W w1) : (∀ b o, b < W.heap.size → w1.cell? ⟨b, o, none⟩ = W.cell? ⟨b, o, none⟩) ∧ (∀ b o, b < W.heap.size → w1.frozen? ⟨b, o, none⟩ = W.frozen? ⟨b, o, none⟩) :=
  ⟨fun b o h => hb.cell (p := ⟨b, o, none⟩) h, fun b o h => hb.frozen (p := ⟨b, o, none⟩) h⟩

/-- A word of 64 bits. -/
def Word (x : Int) : Prop := 0 ≤ x ∧ x < 18446744073709551616
/-- The number of two words. -/
def val (h l : Int) : Int := h * 18446744073709551616 + l

/-- A borrow, under a name. -/
def bor (x y : Int) : Int := if x < y then 1 else 0
theorem bor_bd (x y : Int) : 0 ≤ bor x y ∧ bor x y ≤ 1 := by unfold bor; split <;> decide

/-- What Add answers. -/
def AddPost (s : Int) (w : World) (e : Ending) (w' : World) : Prop :=
  ∃ h l : Int, ∃ o : Bool, e = .returned (.tuple #[.agg #[.int .u64 h, .int .u64 l], .bool o]) ∧ Word h ∧ Word l ∧
    ((o = true ∧ val h l + 340282366920938463463374607431768211456 = s) ∨ (o = false ∧ val h l = s)) ∧ Below w.heap.size w w'

theorem add_mk (ah al bh bl : Int) (h1 : Word ah) (h2 : Word al) (h3 : Word bh) (h4 : Word bl) (w w' : World) (hb : Below w.heap.size w w') :
    AddPost (val ah al + val bh bl) w (.returned (.tuple #[.agg #[.int .u64 ((ah + bh + (al + bl) / 18446744073709551616) % 18446744073709551616), .int .u64 ((al + bl) % 18446744073709551616)], .bool ((ah + bh + (al + bl) / 18446744073709551616) / 18446744073709551616 != 0)])) w' := by
  unfold Word at *
  refine ⟨_, _, _, rfl, ⟨by omega, by omega⟩, ⟨by omega, by omega⟩, ?_, hb⟩
  unfold val
  by_cases h : (ah + bh + (al + bl) / 18446744073709551616) / 18446744073709551616 = 0
  · exact .inr ⟨by simp [h], by omega⟩
  · exact .inl ⟨by simp [h], by omega⟩

/-- What Sub answers. -/
def SubPost (s : Int) (w : World) (e : Ending) (w' : World) : Prop :=
  ∃ h l : Int, ∃ o : Bool, e = .returned (.tuple #[.agg #[.int .u64 h, .int .u64 l], .bool o]) ∧ Word h ∧ Word l ∧
    ((o = true ∧ val h l = s + 340282366920938463463374607431768211456) ∨ (o = false ∧ val h l = s)) ∧ Below w.heap.size w w'

theorem sub_mk (ah al bh bl : Int) (h1 : Word ah) (h2 : Word al) (h3 : Word bh) (h4 : Word bl) (w w' : World) (hb : Below w.heap.size w w') :
    SubPost (val ah al - val bh bl) w (.returned (.tuple #[.agg #[.int .u64 ((ah - bh - bor al bl) % 18446744073709551616), .int .u64 ((al - bl) % 18446744073709551616)], .bool (bor ah (bh + bor al bl) != 0)])) w' := by
  unfold Word at *
  refine ⟨_, _, _, rfl, ⟨by omega, by omega⟩, ⟨by omega, by omega⟩, ?_, hb⟩
  unfold val bor
  by_cases h : al < bl
  · by_cases h' : ah < bh + 1
    · exact .inl ⟨by simp [h, h'], by simp [h]; omega⟩
    · exact .inr ⟨by simp [h, h'], by simp [h]; omega⟩
  · by_cases h' : ah < bh
    · exact .inl ⟨by simp [h, h'], by simp [h]; omega⟩
    · exact .inr ⟨by simp [h, h'], by simp [h]; omega⟩

/-- What Mul answers. -/
def U128Post (s : Int) (w : World) (e : Ending) (w' : World) : Prop :=
  ∃ h l : Int, e = .returned (.agg #[.int .u64 h, .int .u64 l]) ∧ Word h ∧ Word l ∧ val h l = s ∧ Below w.heap.size w w'
theorem mul_bd (x y : Int) (h1 : Word x) (h2 : Word y) : 0 ≤ x * y ∧ x * y ≤ 18446744073709551615 * 18446744073709551615 := by
  unfold Word at *
  exact ⟨Int.mul_nonneg h1.1 h2.1, Int.mul_le_mul (by omega) (by omega) (by omega) (by omega)⟩
theorem mul_mk (x y : Int) (h1 : Word x) (h2 : Word y) (w w' : World) (hb : Below w.heap.size w w') :
    U128Post (x * y) w (.returned (.agg #[.int .u64 (x * y / 18446744073709551616), .int .u64 (x * y % 18446744073709551616)])) w' := by
  have h := mul_bd x y h1 h2
  generalize x * y = p at *
  refine ⟨_, _, rfl, ⟨by omega, by omega⟩, ⟨by omega, by omega⟩, by unfold val; omega, hb⟩
end Go.Proofs.YtmjidpkddiinaaaDoor

/-
  The walks of package wide: Len, Cmp, Shl, Shr.
-/
namespace Go.Proofs.YtmjidpkddiinaaaDoor
open Go.RowKit Go.Shelf

theorem bitLenAux_bd : ∀ (f x : Nat), x < 2 ^ f → x < 2 ^ Lib.bitLenAux f x ∧ (x ≠ 0 → 2 ^ Lib.bitLenAux f x ≤ 2 * x) ∧ Lib.bitLenAux f x ≤ f
  | 0, x, h => by
    have : x = 0 := by simpa using h
    subst this; simp [Lib.bitLenAux]
  | f + 1, x, h => by
    unfold Lib.bitLenAux
    by_cases hx : x = 0
    · subst hx; simp
    · rw [if_neg hx]
      obtain ⟨h1, h2, h3⟩ := bitLenAux_bd f (x / 2) (by rw [Nat.pow_succ] at h; omega)
      rw [Nat.add_comm 1, Nat.pow_succ]
      refine ⟨by omega, fun _ => ?_, by omega⟩
      by_cases h0 : x / 2 = 0
      · have : x = 1 := by omega
        subst this
        have e : Lib.bitLenAux f (1 / 2) = 0 := by cases f <;> simp [Lib.bitLenAux]
        rw [e]; decide
      · have := h2 h0; omega
theorem bitLen_bd (x : Nat) (h : x < 18446744073709551616) : x < 2 ^ Lib.bitLen x ∧ (x ≠ 0 → 2 ^ Lib.bitLen x ≤ 2 * x) ∧ Lib.bitLen x ≤ 64 := bitLenAux_bd 64 x h

/-- What Len answers. -/
def LenPost (v : Int) (w : World) (e : Ending) (w' : World) : Prop :=
  ∃ n : Nat, e = .returned (.int .i64 (n : Int)) ∧ n ≤ 128 ∧ v < (2 ^ n : Nat) ∧ (v ≠ 0 → ((2 ^ n : Nat) : Int) ≤ 2 * v) ∧ Below w.heap.size w w'
theorem len_hi (h l : Int) (h1 : Word h) (h2 : Word l) (hh : h ≠ 0) (w w' : World) (hb : Below w.heap.size w w') : LenPost (val h l) w (.returned (.int .i64 (64 + (Lib.bitLen h.toNat : Int)))) w' := by
  unfold Word at *
  obtain ⟨x, rfl⟩ := Int.eq_ofNat_of_zero_le h1.1
  obtain ⟨b1, b2, b3⟩ := bitLen_bd x (by omega)
  have b2 := b2 (by omega)
  refine ⟨64 + Lib.bitLen x, by simp, by omega, ?_, fun _ => ?_, hb⟩
  · rw [Nat.pow_add, show (2 : Nat) ^ 64 = 18446744073709551616 from rfl]; unfold val; generalize 2 ^ Lib.bitLen x = p at *; omega
  · rw [Nat.pow_add, show (2 : Nat) ^ 64 = 18446744073709551616 from rfl]; unfold val; generalize 2 ^ Lib.bitLen x = p at *; omega
theorem len_lo (l : Int) (h2 : Word l) (w w' : World) (hb : Below w.heap.size w w') : LenPost (val 0 l) w (.returned (.int .i64 (Lib.bitLen l.toNat : Int))) w' := by
  unfold Word at *
  obtain ⟨x, rfl⟩ := Int.eq_ofNat_of_zero_le h2.1
  obtain ⟨b1, b2, b3⟩ := bitLen_bd x (by omega)
  refine ⟨Lib.bitLen x, by simp, by omega, ?_, fun hx => ?_, hb⟩
  · unfold val; generalize 2 ^ Lib.bitLen x = p at *; omega
  · unfold val at *; have b2 := b2 (by omega); generalize 2 ^ Lib.bitLen x = p at *; omega

/-- What Cmp answers. -/
def CmpPost (a b : Int) (w : World) (e : Ending) (w' : World) : Prop :=
  ∃ c : Int, e = .returned (.int .i64 c) ∧ ((c = -1 ∧ a < b) ∨ (c = 0 ∧ a = b) ∨ (c = 1 ∧ b < a)) ∧ Below w.heap.size w w'
end Go.Proofs.YtmjidpkddiinaaaDoor

/-
  The walks of package wide: Shl, Shr.
-/
namespace Go.Proofs.YtmjidpkddiinaaaDoor
open Go.RowKit Go.Shelf

/-- A power of two, as an int. -/
def pw (n : Int) : Int := ((2 ^ n.toNat : Nat) : Int)
theorem pw_eq (n : Int) : (2 : Int) ^ n.toNat = pw n := (Int.natCast_pow 2 n.toNat).symm
theorem pw_pos (n : Int) : 0 < pw n := by exact Int.natCast_pos.2 (Nat.two_pow_pos _)
theorem pw_nonpos {n : Int} (h : n ≤ 0) : pw n = 1 := by unfold pw; rw [Int.toNat_of_nonpos h]; rfl
theorem pw_add (a b : Int) (ha : 0 ≤ a) (hb : 0 ≤ b) : pw (a + b) = pw a * pw b := by
  unfold pw
  rw [Int.toNat_add ha hb, Nat.pow_add]
  rfl
theorem pw_64 : pw 64 = 18446744073709551616 := rfl
theorem pw_split (n : Int) (h0 : 0 ≤ n) (h1 : n ≤ 64) : pw n * pw (64 - n) = 18446744073709551616 := by
  rw [← pw_add n (64 - n) h0 (by omega), show n + (64 - n) = 64 by omega]; rfl

/-- The words of a number that is shifted up by less than a word. -/
theorem shl_words (h l n : Int) (h1 : Word h) (h2 : Word l) (hn : 0 ≤ n) (hn2 : n ≤ 64) :
    bits .or .u64 (IntKind.u64.wrap (h * pw n)) (l / pw (64 - n)) = (val h l * pw n % 340282366920938463463374607431768211456) / 18446744073709551616 ∧
    IntKind.u64.wrap (l * pw n) = (val h l * pw n % 340282366920938463463374607431768211456) % 18446744073709551616 := by
  have hs := pw_split n hn hn2
  have hp := pw_pos n
  have hq := pw_pos (64 - n)
  have hpw : pw n = ((2 ^ n.toNat : Nat) : Int) := rfl
  obtain ⟨h, rfl⟩ := Int.eq_ofNat_of_zero_le h1.1
  obtain ⟨l, rfl⟩ := Int.eq_ofNat_of_zero_le h2.1
  generalize pw (64 - n) = q' at *
  generalize pw n = p' at *
  obtain ⟨p, rfl⟩ := Int.eq_ofNat_of_zero_le (Int.le_of_lt hp)
  obtain ⟨q, rfl⟩ := Int.eq_ofNat_of_zero_le (Int.le_of_lt hq)
  have hpq : p * q = Plain.B := Int.ofNat.inj hs
  have hpw : p = 2 ^ n.toNat := by exact_mod_cast hpw
  obtain ⟨a1, a2, a3, a4⟩ := Plain.shl_parts p q h l (by omega) (by omega) hpq (by have := h1.2; unfold Plain.B; omega) (by have := h2.2; unfold Plain.B; omega)
  have hl2 : l / q < 18446744073709551616 := Nat.lt_of_le_of_lt (Nat.div_le_self _ _) (by have := h2.2; omega)
  have e1 : IntKind.u64.wrap ((h : Int) * (p : Int)) = ((h * p % Plain.B : Nat) : Int) := by rw [IntKind.wrap_u64]; rfl
  have e2 : IntKind.u64.wrap ((l : Int) * (p : Int)) = ((l * p % Plain.B : Nat) : Int) := by rw [IntKind.wrap_u64]; rfl
  have e3 : (l : Int) / (q : Int) = ((l / q : Nat) : Int) := rfl
  have e4 : val (h : Int) (l : Int) * (p : Int) % 340282366920938463463374607431768211456 = (((h * Plain.B + l) * p % (Plain.B * Plain.B) : Nat) : Int) := rfl
  rw [e1, e2, e3, e4, u64_or_nat _ _ (Nat.mod_lt _ (by decide)) hl2]
  have a3' : h * p % Plain.B % 2 ^ n.toNat = 0 := by rw [← hpw]; exact a3
  have a4' : l / q < 2 ^ n.toNat := by rw [← hpw]; exact a4
  rw [Plain.nat_join n.toNat _ _ a3' a4', a1, a2]
  exact ⟨rfl, rfl⟩

theorem u128_mk (v : Int) (h0 : 0 ≤ v) (h1 : v < 340282366920938463463374607431768211456) (w w' : World) (hb : Below w.heap.size w w') :
    U128Post v w (.returned (.agg #[.int .u64 (v / 18446744073709551616), .int .u64 (v % 18446744073709551616)])) w' :=
  ⟨_, _, rfl, ⟨by omega, by omega⟩, ⟨by omega, by omega⟩, by unfold val; omega, hb⟩
theorem mod_bd (x : Int) : 0 ≤ x % 340282366920938463463374607431768211456 ∧ x % 340282366920938463463374607431768211456 < 340282366920938463463374607431768211456 := by omega

theorem shl_mk (h l n : Int) (h1 : Word h) (h2 : Word l) (hn : 0 ≤ n) (hn2 : n ≤ 64) (w w' : World) (hb : Below w.heap.size w w') :
    U128Post (val h l * pw n % 340282366920938463463374607431768211456) w (.returned (.agg #[.int .u64 (bits .or .u64 (IntKind.u64.wrap (h * 2 ^ n.toNat)) (l / 2 ^ (64 - n).toNat)), .int .u64 (IntKind.u64.wrap (l * 2 ^ n.toNat))])) w' := by
  rw [pw_eq, pw_eq, (shl_words h l n h1 h2 hn hn2).1, (shl_words h l n h1 h2 hn hn2).2]
  exact u128_mk _ (mod_bd _).1 (mod_bd _).2 _ _ hb

/-- A shift up by a word or more. -/
theorem shl_far_mk (h l n : Int) (hn : 64 ≤ n) (w w' : World) (hb : Below w.heap.size w w') :
    U128Post (val h l * pw n % 340282366920938463463374607431768211456) w (.returned (.agg #[.int .u64 (IntKind.u64.wrap (l * 2 ^ min (n - 64).toNat 64)), .int .u64 0])) w' := by
  have e : val h l * pw n % 340282366920938463463374607431768211456 = val (IntKind.u64.wrap (l * 2 ^ min (n - 64).toNat 64)) 0 := by
    rw [IntKind.wrap_u64]
    have e1 : pw n = pw (n - 64) * 18446744073709551616 := by rw [← pw_64, ← pw_add _ _ (by omega) (by omega)]; congr 1; omega
    have e2 : ∃ k, pw (n - 64) = 2 ^ min (n - 64).toNat 64 * k ∧ (64 ≤ n - 64 ∨ k = 1) := by
      rw [← pw_eq]
      by_cases hm : (n - 64).toNat ≤ 64
      · exact ⟨1, by rw [Nat.min_eq_left hm, Int.mul_one], .inr rfl⟩
      · exact ⟨2 ^ ((n - 64).toNat - 64), by rw [Nat.min_eq_right (by omega), ← Int.pow_add]; congr 1; omega, .inl (by omega)⟩
    obtain ⟨k, e2, hk⟩ := e2
    rcases hk with hk | rfl
    · have e3 : min (n - 64).toNat 64 = 64 := by omega
      rw [e1, e2, e3, show (2 : Int) ^ 64 = 18446744073709551616 from rfl]
      unfold val
      have a1 : (h * 18446744073709551616 + l) * (18446744073709551616 * k * 18446744073709551616) = ((h * 18446744073709551616 + l) * k) * 340282366920938463463374607431768211456 := by
        generalize h * 18446744073709551616 + l = v
        rw [Int.mul_comm 18446744073709551616 k, Int.mul_assoc k, ← Int.mul_assoc v k]; rfl
      rw [a1, Int.mul_emod_left, Int.mul_emod_left]; rfl
    · rw [e1, e2, Int.mul_one]
      generalize (2 : Int) ^ min (n - 64).toNat 64 = p
      unfold val
      rw [Int.add_mul, show h * 18446744073709551616 * (p * 18446744073709551616) = (h * p) * 340282366920938463463374607431768211456 by
        rw [Int.mul_assoc, Int.mul_left_comm 18446744073709551616 p, ← Int.mul_assoc h p]; rfl, ← Int.mul_assoc l p]
      generalize h * p = x
      generalize l * p = y
      omega
  refine ⟨_, _, rfl, ?_, ⟨by omega, by omega⟩, e.symm, hb⟩
  rw [IntKind.wrap_u64]; exact ⟨by omega, by omega⟩

theorem val_bd {h l : Int} (h1 : Word h) (h2 : Word l) : 0 ≤ val h l ∧ val h l < 340282366920938463463374607431768211456 := by
  unfold Word val at *; omega

/-- The words of a number that is shifted down by less than a word. -/
theorem shr_words (h l n : Int) (h1 : Word h) (h2 : Word l) (hn : 0 ≤ n) (hn2 : n ≤ 64) :
    h / pw n = (val h l / pw n) / 18446744073709551616 ∧
    bits .or .u64 (l / pw n) (IntKind.u64.wrap (h * pw (64 - n))) = (val h l / pw n) % 18446744073709551616 := by
  have hs := pw_split n hn hn2
  have hp := pw_pos n
  have hq := pw_pos (64 - n)
  have hpw : pw (64 - n) = ((2 ^ (64 - n).toNat : Nat) : Int) := rfl
  obtain ⟨h, rfl⟩ := Int.eq_ofNat_of_zero_le h1.1
  obtain ⟨l, rfl⟩ := Int.eq_ofNat_of_zero_le h2.1
  generalize pw (64 - n) = q' at *
  generalize pw n = p' at *
  obtain ⟨p, rfl⟩ := Int.eq_ofNat_of_zero_le (Int.le_of_lt hp)
  obtain ⟨q, rfl⟩ := Int.eq_ofNat_of_zero_le (Int.le_of_lt hq)
  have hpq : p * q = Plain.B := Int.ofNat.inj hs
  have hpw : q = 2 ^ (64 - n).toNat := by exact_mod_cast hpw
  obtain ⟨a1, a2, a3, a4⟩ := Plain.shr_parts p q h l (by omega) (by omega) hpq (by have := h1.2; unfold Plain.B; omega) (by have := h2.2; unfold Plain.B; omega)
  have hl2 : l / p < 18446744073709551616 := Nat.lt_of_le_of_lt (Nat.div_le_self _ _) (by have := h2.2; omega)
  have e1 : IntKind.u64.wrap ((h : Int) * (q : Int)) = ((h * q % Plain.B : Nat) : Int) := by rw [IntKind.wrap_u64]; rfl
  have e3 : (l : Int) / (p : Int) = ((l / p : Nat) : Int) := rfl
  have e4 : val (h : Int) (l : Int) / (p : Int) = (((h * Plain.B + l) / p : Nat) : Int) := rfl
  have e5 : (h : Int) / (p : Int) = ((h / p : Nat) : Int) := rfl
  rw [e1, e3, e4, e5, u64_or_nat _ _ hl2 (Nat.mod_lt _ (by decide)), Nat.or_comm]
  have a3' : h * q % Plain.B % 2 ^ (64 - n).toNat = 0 := by rw [← hpw]; exact a3
  have a4' : l / p < 2 ^ (64 - n).toNat := by rw [← hpw]; exact a4
  rw [Plain.nat_join _ _ _ a3' a4', a1, a2]
  exact ⟨rfl, rfl⟩

/-- What Shr answers. -/
def ShrPost (v p : Int) (w : World) (e : Ending) (w' : World) : Prop :=
  ∃ h l : Int, ∃ o : Bool, e = .returned (.tuple #[.agg #[.int .u64 h, .int .u64 l], .bool o]) ∧ Word h ∧ Word l ∧ val h l = v / p ∧ (o = false ↔ v % p = 0) ∧ Below w.heap.size w w'

theorem val_inj {a b c d : Int} (_h1 : Word a) (h2 : Word b) (_h3 : Word c) (h4 : Word d) (h : val a b = val c d) : a = c ∧ b = d := by
  unfold Word val at *; omega
theorem U128Post.at {v r s : Int} (h1 : Word r) (h2 : Word s) (hv : val r s = v) : ∀ (w : World) (e : Ending) (w' : World), U128Post v w e w' → e = .returned (.agg #[.int .u64 r, .int .u64 s]) ∧ Below w.heap.size w w' := by
  rintro w e w' ⟨a, b, rfl, h3, h4, h, hb⟩
  obtain ⟨rfl, rfl⟩ := val_inj h1 h2 h3 h4 (hv.trans h.symm)
  exact ⟨rfl, hb⟩
theorem words (v : Int) (h0 : 0 ≤ v) (h1 : v < 340282366920938463463374607431768211456) : ∃ r s, Word r ∧ Word s ∧ val r s = v :=
  ⟨v / 18446744073709551616, v % 18446744073709551616, ⟨by omega, by omega⟩, ⟨by omega, by omega⟩, by unfold val; omega⟩

/-- What comes of Shr: the words x, y; shifted up again they are r, s. -/
theorem shr_mk (h l n x y r s : Int) (h1 : Word h) (h2 : Word l) (h3 : Word x) (h4 : Word y) (h5 : Word r) (h6 : Word s) (hxy : val x y = val h l / pw n)
    (hrs : val r s = val x y * pw n % 340282366920938463463374607431768211456) (o : Bool) (ho : o = false ↔ (r = h ∧ s = l)) (w w' : World) (hb : Below w.heap.size w w') :
    ShrPost (val h l) (pw n) w (.returned (.tuple #[.agg #[.int .u64 x, .int .u64 y], .bool o])) w' := by
  refine ⟨x, y, o, rfl, h3, h4, hxy, ?_, hb⟩
  rw [ho]
  obtain ⟨b1, b2⟩ := val_bd h1 h2
  have hp := pw_pos n
  rw [hxy] at hrs
  have hd := Int.mul_ediv_add_emod (val h l) (pw n)
  have hm := Int.emod_nonneg (val h l) (Int.ne_of_gt hp)
  have hq := Int.ediv_nonneg b1 (Int.le_of_lt hp)
  have hqp := Int.mul_nonneg hq (Int.le_of_lt hp)
  rw [Int.mul_comm] at hd
  have e : val r s = val h l / pw n * pw n := by rw [hrs]; omega
  constructor
  · rintro ⟨rfl, rfl⟩; omega
  · intro h0; exact val_inj h5 h6 h1 h2 (by omega)

theorem far_div (h l n : Int) (h1 : Word h) (h2 : Word l) (hn : 64 ≤ n) : val 0 (h / 2 ^ min (n - 64).toNat 64) = val h l / pw n := by
  have e1 : pw n = 18446744073709551616 * pw (n - 64) := by rw [← pw_64, ← pw_add _ _ (by omega) (by omega)]; congr 1; omega
  rw [e1, ← Int.ediv_ediv_of_nonneg (by decide), show val h l / 18446744073709551616 = h by unfold val Word at *; omega]
  unfold val
  rw [← pw_eq]
  obtain ⟨h, rfl⟩ := Int.eq_ofNat_of_zero_le h1.1
  by_cases hm : (n - 64).toNat ≤ 64
  · rw [Nat.min_eq_left hm]; omega
  · rw [Nat.min_eq_right (by omega)]
    have e2 : (h : Int) / 2 ^ 64 = 0 := by have := h1.2; rw [show (2 : Int) ^ 64 = 18446744073709551616 from rfl]; omega
    have e3 : (h : Int) / 2 ^ (n - 64).toNat = 0 := by
      refine Int.ediv_eq_zero_of_lt (by omega) ?_
      have k : 2 ^ 64 ≤ 2 ^ (n - 64).toNat := Nat.pow_le_pow_right (by decide) (by omega)
      rw [show (2 : Nat) ^ 64 = 18446744073709551616 from rfl] at k
      have e : (2 : Int) ^ (n - 64).toNat = ((2 ^ (n - 64).toNat : Nat) : Int) := (Int.natCast_pow 2 _).symm
      rw [e]
      have := h1.2
      generalize 2 ^ (n - 64).toNat = z at *
      omega
    rw [e2, e3]; rfl

end Go.Proofs.YtmjidpkddiinaaaDoor

/-
  Small things that the statements share.
-/
namespace Go.Proofs.YtmjidpkddiinaaaDoor
open Go.RowKit Go.Shelf

/-- What the head answers: true; nothing that was there has changed. -/
def TruePost (w : World) (e : Ending) (w' : World) : Prop := e = .returned (.bool true) ∧ Below w.heap.size w w'
instance (x : Int) : Decidable (Word x) := by unfold Word; infer_instance
end Go.Proofs.YtmjidpkddiinaaaDoor

/-
  The walks of package float: a number's kind, its parts, its neighbours, its other sign; and the document's own answers to these.
-/
namespace Go.Proofs.YtmjidpkddiinaaaDoor
open Go.RowKit Go.Shelf

/-! ### What the functions answer, on ints -/
def expI (x : Int) : Int := x / 4503599627370496 % 2048
def fracI (x : Int) : Int := x % 4503599627370496
def absI (x : Int) : Int := x % 9223372036854775808
def kindI (x : Int) : Int := if 9218868437227405312 < absI x then 4 else if absI x = 9218868437227405312 then 3 else if 4503599627370496 ≤ absI x then 2 else if absI x = 0 then 0 else 1
def rightI (x : Int) : Int := if kindI x = 4 then 9221120237041090560 else x
def negB (x : Int) : Bool := decide (9223372036854775808 ≤ x)
def mantI (x : Int) : Int := if expI x = 2047 then 0 else if expI x = 0 then fracI x else 4503599627370496 + fracI x
def powI (x : Int) : Int := if expI x = 2047 then 0 else if expI x = 0 then -1074 else expI x - 1075
def turnI (x : Int) : Int := (x + 9223372036854775808) % 18446744073709551616
def negI (x : Int) : Int := if kindI x = 4 then 9221120237041090560 else turnI x
def nextI (x : Int) : Int := if kindI x = 4 then 9221120237041090560 else if absI x = 0 then 1 else if x = 9218868437227405312 then x else if 9223372036854775808 < x then x - 1 else x + 1
def prevI (x : Int) : Int := negI (nextI (negI x))

theorem u64_bits_and_top (x : Int) (h : Word x) : bits .and .u64 x 9223372036854775808 = if 9223372036854775808 ≤ x then 9223372036854775808 else 0 := by
  obtain ⟨n, rfl⟩ := Int.eq_ofNat_of_zero_le h.1
  have hn : n < 18446744073709551616 := by have := h.2; omega
  have e := u64_and_nat n (2 ^ 63) hn (by decide)
  rw [show (9223372036854775808 : Int) = ((2 ^ 63 : Nat) : Int) from rfl, e, nat_bit 63 n]
  have h2 : n / 2 ^ 63 % 2 * 2 ^ 63 = if 9223372036854775808 ≤ n then 9223372036854775808 else 0 := by
    rw [show (2 : Nat) ^ 63 = 9223372036854775808 from rfl]
    split <;> omega
  rw [h2, show ((2 ^ 63 : Nat) : Int) = 9223372036854775808 from rfl]
  split <;> split <;> first | rfl | omega
theorem and_mask (x : Int) (k : Nat) (hk : 2 ^ k - 1 < 18446744073709551616) (h0 : 0 ≤ x) (h1 : x < 18446744073709551616) : bits .and .u64 x ((2 ^ k - 1 : Nat) : Int) = x % ((2 ^ k : Nat) : Int) := by
  obtain ⟨n, rfl⟩ := Int.eq_ofNat_of_zero_le h0
  rw [u64_and_nat n (2 ^ k - 1) (by omega) hk, Nat.and_two_pow_sub_one_eq_mod]
  rfl
theorem u64_andNot_top (x : Int) (h : Word x) : bits .andNot .u64 x 9223372036854775808 = absI x := by
  obtain ⟨n, rfl⟩ := Int.eq_ofNat_of_zero_le h.1
  have hn : n < 18446744073709551616 := by have := h.2; omega
  have e := u64_andNot_nat n 9223372036854775808 hn (by decide)
  rw [show (9223372036854775808 : Int) = ((9223372036854775808 : Nat) : Int) from rfl, e]
  rw [show (18446744073709551615 - 9223372036854775808 : Nat) = 2 ^ 63 - 1 from rfl, Nat.and_two_pow_sub_one_eq_mod]
  rfl
theorem xor_low (r : Nat) (h : r < 2 ^ 63) : r ^^^ 2 ^ 63 = 2 ^ 63 + r := by
  apply Nat.eq_of_testBit_eq
  intro i
  rw [Nat.testBit_xor]
  rcases Nat.lt_trichotomy i 63 with hi | rfl | hi
  · rw [Nat.testBit_two_pow_add_gt hi, Nat.testBit_two_pow_of_ne (by omega)]; simp
  · rw [Nat.testBit_two_pow_add_eq, Nat.testBit_two_pow_self]; simp
  · have k : 2 ^ 64 ≤ 2 ^ i := Nat.pow_le_pow_right (by decide) (by omega)
    rw [Nat.testBit_lt_two_pow (x := 2 ^ 63 + r) (i := i) (by omega), Nat.testBit_lt_two_pow (x := r) (i := i) (by omega), Nat.testBit_two_pow_of_ne (by omega)]; rfl
theorem xor_top (n : Nat) (h : n < 2 ^ 64) : n ^^^ 2 ^ 63 = (n + 2 ^ 63) % 2 ^ 64 := by
  by_cases hn : n < 2 ^ 63
  · rw [xor_low n hn]; omega
  · obtain ⟨r, hr⟩ : ∃ r, n = 2 ^ 63 + r := ⟨n - 2 ^ 63, by omega⟩
    have e := xor_low r (by omega)
    rw [hr, ← e, Nat.xor_assoc, Nat.xor_self, Nat.xor_zero, e]; omega
theorem u64_xor_top (x : Int) (h : Word x) : bits .xor .u64 x 9223372036854775808 = turnI x := by
  obtain ⟨n, rfl⟩ := Int.eq_ofNat_of_zero_le h.1
  have hn : n < 18446744073709551616 := by have := h.2; omega
  rw [show (9223372036854775808 : Int) = ((2 ^ 63 : Nat) : Int) from rfl, u64_xor_nat n (2 ^ 63) hn (by decide), xor_top n hn]
  rfl

/-- The parts hang together. -/
theorem abs_parts (x : Int) (_h : Word x) : absI x = expI x * 4503599627370496 + fracI x ∧ 0 ≤ expI x ∧ expI x < 2048 ∧ 0 ≤ fracI x ∧ fracI x < 4503599627370496 := by
  unfold absI expI fracI Word at *; omega

theorem and_exp (x : Int) (h : Word x) : bits .and .u64 (x / 4503599627370496) 2047 = expI x := by
  have := and_mask (x / 4503599627370496) 11 (by decide) (by have := h.1; omega) (by have := h.2; omega)
  exact this
theorem and_frac (x : Int) (h : Word x) : bits .and .u64 x 4503599627370495 = fracI x := and_mask x 52 (by decide) h.1 h.2
theorem or_lead (x : Int) : bits .or .u64 4503599627370496 (fracI x) = 4503599627370496 + fracI x := by
  have h0 : 0 ≤ fracI x := by unfold fracI; omega
  have h1 : fracI x < 4503599627370496 := by unfold fracI; omega
  obtain ⟨n, hn⟩ := Int.eq_ofNat_of_zero_le h0
  rw [hn] at h1 ⊢
  rw [show (4503599627370496 : Int) = ((2 ^ 52 : Nat) : Int) from rfl, u64_or_nat (2 ^ 52) n (by decide) (by omega), Plain.nat_join 52 (2 ^ 52) n (by decide) (by have : (2 : Nat) ^ 52 = 4503599627370496 := rfl; omega)]
  rfl

/-! ### Kind -/
theorem kind_parts (x : Int) (h : Word x) : kindI x = if expI x = 2047 then (if fracI x = 0 then 3 else 4) else if expI x = 0 then (if fracI x = 0 then 0 else 1) else 2 := by
  obtain ⟨e, a, b, c, d⟩ := abs_parts x h
  unfold kindI
  rw [e]
  generalize expI x = p at *
  generalize fracI x = q at *
  clear e
  repeat' split
  all_goals omega

end Go.Proofs.YtmjidpkddiinaaaDoor

/-
  The walks of package float, on: Right, Split, Neg, Abs, Next, Prev, and the document's own.
-/
namespace Go.Proofs.YtmjidpkddiinaaaDoor
open Go.RowKit Go.Shelf

theorem ret_u64 {a b : Int} (h : a = b) : Ending.returned (.int .u64 a) = .returned (.int .u64 b) := by rw [h]

theorem right_word (x : Int) (h : Word x) : Word (rightI x) := by
  unfold rightI; split
  · decide
  · exact h
end Go.Proofs.YtmjidpkddiinaaaDoor

/-
  The walks of package float, on: Split of the document, Next and Prev of both.
-/
namespace Go.Proofs.YtmjidpkddiinaaaDoor
open Go.RowKit Go.Shelf

/-- Next, by the order of the tests in the code. -/
theorem next_code (x : Int) (h : Word x) : nextI x = if kindI x = 4 then 9221120237041090560 else if x = 9223372036854775808 then 1 else if x = 9218868437227405312 then x else if 9223372036854775808 < x then x - 1 else x + 1 := by
  unfold nextI absI Word at *
  repeat' split
  all_goals omega
theorem next_ref (x : Int) (h : Word x) : nextI x = if kindI x = 4 then 9221120237041090560 else if kindI x = 0 then 1 else if x = 9218868437227405312 then 9218868437227405312 else if x < 9223372036854775808 then x + 1 else x - 1 := by
  have hk : kindI x = 0 ↔ absI x = 0 := by
    unfold kindI absI at *; repeat' split
    all_goals omega
  by_cases c : kindI x = 4
  · unfold nextI; rw [if_pos c, if_pos c]
  · unfold nextI
    rw [if_neg c, if_neg c]
    by_cases c0 : absI x = 0
    · rw [if_pos c0, if_pos (hk.2 c0)]
    · rw [if_neg c0, if_neg (fun e => c0 (hk.1 e))]
      unfold absI Word at *
      repeat' split
      all_goals omega

theorem neg_word (x : Int) (_h : Word x) : Word (negI x) := by
  unfold negI; split
  · decide
  · unfold turnI Word; omega
theorem next_word (x : Int) (h : Word x) : Word (nextI x) := by
  have := next_code x h
  have hk : x = 18446744073709551615 → kindI x = 4 := by rintro rfl; decide
  unfold Word at *
  rw [this]
  repeat' split
  all_goals omega
end Go.Proofs.YtmjidpkddiinaaaDoor

/-
  The walks of package float, on: packed, nearest, Join.
-/
namespace Go.Proofs.YtmjidpkddiinaaaDoor
open Go.RowKit Go.Shelf

/-! ### The closure that tells the lowest bits -/
theorem mask_var (m n : Int) (h : Word m) (hn : 0 ≤ n) : bits .and .u64 m (IntKind.u64.wrap (IntKind.u64.wrap (2 ^ min n.toNat 64) - 1)) = m % pw n := by
  obtain ⟨k, rfl⟩ := Int.eq_ofNat_of_zero_le h.1
  have hk : k < 18446744073709551616 := by have := h.2; omega
  obtain ⟨j, rfl⟩ := Int.eq_ofNat_of_zero_le hn
  have ep : pw (j : Int) = ((2 ^ j : Nat) : Int) := rfl
  rw [Int.toNat_natCast, ep]
  by_cases hj : j < 64
  · have e2 : 2 ^ j < 18446744073709551616 := by
      have := Nat.pow_lt_pow_right (a := 2) (by decide) hj
      exact this
    have e0 : 0 < 2 ^ j := Nat.two_pow_pos j
    have e1 : IntKind.u64.wrap (IntKind.u64.wrap (2 ^ min j 64) - 1) = ((2 ^ j - 1 : Nat) : Int) := by
      have e : (2 : Int) ^ j = ((2 ^ j : Nat) : Int) := (Int.natCast_pow 2 j).symm
      rw [Nat.min_eq_left (by omega), e, IntKind.wrap_u64, IntKind.wrap_u64]
      generalize 2 ^ j = q at *
      omega
    rw [e1]
    exact and_mask k j (by omega) (by omega) (by omega)
  · have e1 : IntKind.u64.wrap (IntKind.u64.wrap (2 ^ min j 64) - 1) = ((2 ^ 64 - 1 : Nat) : Int) := by
      rw [Nat.min_eq_right (by omega)]; decide
    rw [e1, and_mask k 64 (by decide) (by omega) (by omega)]
    have e2 : 2 ^ 64 ≤ 2 ^ j := Nat.pow_le_pow_right (by decide) (by omega)
    have e3 : (2 : Nat) ^ 64 = 18446744073709551616 := rfl
    rw [Int.emod_eq_of_lt (by omega) (by rw [e3]; omega), Int.emod_eq_of_lt (by omega) (by generalize 2 ^ j = q at *; omega)]

/-! ### packed -/
theorem shr_var64 (m n : Int) (h : Word m) (hn : 0 ≤ n) : m / 2 ^ min n.toNat 64 = m / pw n := by
  obtain ⟨j, rfl⟩ := Int.eq_ofNat_of_zero_le hn
  have ep : pw (j : Int) = ((2 ^ j : Nat) : Int) := rfl
  have e : ∀ i : Nat, (2 : Int) ^ i = ((2 ^ i : Nat) : Int) := fun i => (Int.natCast_pow 2 i).symm
  rw [Int.toNat_natCast, ep, e]
  by_cases hj : j ≤ 64
  · rw [Nat.min_eq_left hj]
  · rw [Nat.min_eq_right (by omega)]
    have e2 : 2 ^ 64 ≤ 2 ^ j := Nat.pow_le_pow_right (by decide) (by omega)
    have e3 : (2 : Nat) ^ 64 = 18446744073709551616 := rfl
    rw [Int.ediv_eq_zero_of_lt h.1 (by have := h.2; rw [e3]; omega), Int.ediv_eq_zero_of_lt h.1 (by have := h.2; generalize 2 ^ j = q at *; omega)]
theorem and_one (x : Int) (h0 : 0 ≤ x) (h1 : x < 18446744073709551616) : bits .and .u64 x 1 = x % 2 := and_mask x 1 (by decide) h0 h1

/-- What is kept of m behind the cut, rounded. -/
def roundI (m cut : Int) (more : Bool) : Int :=
  if ((m % pw cut != m % pw (cut - 1)) && (more || (m % pw (cut - 1) != 0) || (m / pw cut % 2 != 0))) then m / pw cut + 1 else m / pw cut
def packI (m cut : Int) (more : Bool) : Int := if cut ≤ 0 then IntKind.u64.wrap (m * 2 ^ min (-cut).toNat 64) else roundI m cut more
/-- What packed answers. -/
def WordPost (v : Int) (w : World) (e : Ending) (w' : World) : Prop := e = .returned (.int .u64 v) ∧ Below w.heap.size w w'

end Go.Proofs.YtmjidpkddiinaaaDoor

/-
  The walks of package float, on: nearest, Join.
-/
namespace Go.Proofs.YtmjidpkddiinaaaDoor
open Go.RowKit Go.Shelf

def signI (neg : Bool) : Int := if neg then 9223372036854775808 else 0
/-- The place of the lowest bit that is kept. -/
def lastI (E size : Int) : Int := max (E + size - 52 - 1) (-1074)
def nearI (neg : Bool) (m over e size : Int) (more : Bool) : Int :=
  if m = 0 ∨ e < -2148 - over - size then signI neg
  else if 1024 < e ∨ 1024 < over + e + size then signI neg + 9218868437227405312
  else signI neg + (packI m (lastI (e + over) size - (e + over)) more + (lastI (e + over) size + 1074) * 4503599627370496)

theorem pow_lt {a b : Int} (h0 : 0 ≤ a) (h : a ≤ b) : pw a ≤ pw b := by
  have := pw_add a (b - a) h0 (by omega)
  rw [show a + (b - a) = b by omega] at this
  have k := Int.mul_le_mul_of_nonneg_left (show 1 ≤ pw (b - a) by have := pw_pos (b - a); omega) (Int.le_of_lt (pw_pos a))
  rw [Int.mul_one] at k; omega
theorem pack_bd (m cut size : Int) (more : Bool) (h0 : 0 ≤ m) (h1 : m < pw size) (hs : 0 ≤ size) (hc : size - 53 ≤ cut) : 0 ≤ packI m cut more ∧ packI m cut more ≤ 9007199254740992 := by
  have e53 : pw 53 = 9007199254740992 := rfl
  unfold packI
  by_cases c : cut ≤ 0
  · rw [if_pos c, Nat.min_eq_left (by omega), pw_eq]
    have k1 : m * pw (-cut) < pw 53 := by
      have a := Int.mul_lt_mul_of_pos_right h1 (pw_pos (-cut))
      rw [← pw_add _ _ hs (by omega)] at a
      have b := pow_lt (show 0 ≤ size + -cut by omega) (show size + -cut ≤ 53 by omega)
      omega
    have k0 : 0 ≤ m * pw (-cut) := Int.mul_nonneg h0 (Int.le_of_lt (pw_pos _))
    rw [IntKind.wrap_u64, Int.emod_eq_of_lt k0 (by omega)]
    omega
  · rw [if_neg c]
    have k0 : 0 ≤ m / pw cut := Int.ediv_nonneg h0 (Int.le_of_lt (pw_pos _))
    have k1 : m / pw cut < 9007199254740992 := by
      refine Int.ediv_lt_of_lt_mul (pw_pos _) ?_
      have b := pow_lt hs (show size ≤ 53 + cut by omega)
      rw [pw_add 53 cut (by decide) (by omega), e53] at b
      omega
    unfold roundI
    split <;> omega

theorem or_sign (neg : Bool) (v : Int) (h0 : 0 ≤ v) (h1 : v < 9223372036854775808) : bits .or .u64 (signI neg) v = signI neg + v := by
  obtain ⟨n, rfl⟩ := Int.eq_ofNat_of_zero_le h0
  cases neg
  · have := u64_or_nat 0 n (by decide) (by omega)
    simp only [Nat.zero_or] at this
    show bits .or .u64 0 (n : Int) = 0 + (n : Int)
    rw [Int.zero_add]; exact this
  · show bits .or .u64 9223372036854775808 (n : Int) = 9223372036854775808 + (n : Int)
    rw [show (9223372036854775808 : Int) = ((2 ^ 63 : Nat) : Int) from rfl, u64_or_nat (2 ^ 63) n (by decide) (by omega), Plain.nat_join 63 (2 ^ 63) n (by decide) (by have : (2 : Nat) ^ 63 = 9223372036854775808 := rfl; omega)]
    rfl

/-! ### Join -/
/-- What Join answers: v is the number of 128 bits. -/
def joinI (neg : Bool) (over top size : Int) (lost : Bool) (e : Int) (more : Bool) : Int := nearI neg top over e size (more || lost)
/-- The top 64 bits of a number of n bits, and whether anything was left. -/
def JoinPost (neg : Bool) (v e : Int) (more : Bool) (w : World) (en : Ending) (w' : World) : Prop :=
  ∃ (n : Nat) (over top size : Int) (lost : Bool), n ≤ 128 ∧ v < (2 ^ n : Nat) ∧ (v ≠ 0 → ((2 ^ n : Nat) : Int) ≤ 2 * v) ∧ over = max ((n : Int) - 64) 0 ∧ top = v / pw over ∧ (lost = false ↔ v % pw over = 0) ∧ size = (Lib.bitLen top.toNat : Int) ∧
    en = .returned (.int .u64 (nearI neg top over e size (more || lost))) ∧ Below w.heap.size w w'

end Go.Proofs.YtmjidpkddiinaaaDoor

/-
  The head of chapter 3's statements: the chapter's examples come out as it tells them.
-/
namespace Go.Proofs.YtmjidpkddiinaaaDoor
open Go.RowKit Go.Shelf

theorem len_unique {v : Int} {n m : Nat} (h1 : v < (2 ^ n : Nat)) (h2 : ((2 ^ n : Nat) : Int) ≤ 2 * v) (h3 : v < (2 ^ m : Nat)) (h4 : ((2 ^ m : Nat) : Int) ≤ 2 * v) : n = m := by
  rcases Nat.lt_trichotomy n m with h | h | h
  · have := Nat.pow_le_pow_right (show 0 < 2 by decide) (show n + 1 ≤ m by omega)
    rw [Nat.pow_succ] at this; omega
  · exact h
  · have := Nat.pow_le_pow_right (show 0 < 2 by decide) (show m + 1 ≤ n by omega)
    rw [Nat.pow_succ] at this; omega
/-- Join at a number of n bits. -/
def joinAt (neg : Bool) (v e : Int) (more : Bool) (n : Nat) : Int :=
  nearI neg (v / pw (max ((n : Int) - 64) 0)) (max ((n : Int) - 64) 0) e (Lib.bitLen (v / pw (max ((n : Int) - 64) 0)).toNat : Int) (more || (v % pw (max ((n : Int) - 64) 0) != 0))
theorem JoinPost.at {neg more : Bool} {v e : Int} (n : Nat) (h1 : v < (2 ^ n : Nat)) (h2 : ((2 ^ n : Nat) : Int) ≤ 2 * v) {r : Int} (hr : joinAt neg v e more n = r) :
    ∀ (w : World) (en : Ending) (w' : World), JoinPost neg v e more w en w' → en = .returned (.int .u64 r) ∧ Below w.heap.size w w' := by
  rintro w en w' ⟨m, over, top, size, lost, hm, h3, h4, rfl, rfl, hl, rfl, rfl, hb⟩
  have hv : v ≠ 0 := by have := Nat.two_pow_pos n; omega
  obtain rfl := len_unique h1 h2 h3 (h4 hv)
  refine ⟨?_, hb⟩
  rw [← hr]
  unfold joinAt
  congr 4
  cases lost
  · have := hl.1 rfl; simp [this]
  · have : ¬ v % pw (max ((n : Int) - 64) 0) = 0 := fun e => by have := hl.2 e; cases this
    simp [this]

end Go.Proofs.YtmjidpkddiinaaaDoor

/-
  The number that Join tells, by the whole number of 128 bits; and that a greater one is joined to no lesser number.
-/
namespace Go.Proofs.YtmjidpkddiinaaaDoor
open Go.RowKit Go.Shelf

/-- Rounding at a place, by what is left. -/
theorem round_eq (v c : Int) (more : Bool) (hc : 1 ≤ c) :
    roundI v c more = if pw (c - 1) ≤ v % pw c ∧ (more = true ∨ v % pw c ≠ pw (c - 1) ∨ v / pw c % 2 ≠ 0) then v / pw c + 1 else v / pw c := by
  have e : pw c = 2 * pw (c - 1) := by
    have := pw_add (c - 1) 1 (by omega) (by decide)
    rw [show c - 1 + 1 = c by omega, show pw 1 = 2 from rfl] at this; omega
  have hp := pw_pos (c - 1)
  have hm : v % pw (c - 1) = v % pw c % pw (c - 1) := (Int.emod_emod_of_dvd v ⟨2, by rw [e, Int.mul_comm]⟩).symm
  have r0 := Int.emod_nonneg v (show pw c ≠ 0 by omega)
  have r1 := Int.emod_lt_of_pos v (show 0 < pw c by omega)
  unfold roundI
  rw [hm]
  generalize v % pw c = R at *
  generalize v / pw c = A at *
  generalize pw (c - 1) = h at *
  have key : ((R != R % h) && (more || (R % h != 0) || (A % 2 != 0))) = true ↔ (h ≤ R ∧ (more = true ∨ R ≠ h ∨ A % 2 ≠ 0)) := by
    have hR : (R < h ∧ R % h = R) ∨ (h ≤ R ∧ R % h = R - h) := by
      by_cases c1 : R < h
      · exact .inl ⟨c1, Int.emod_eq_of_lt r0 c1⟩
      · refine .inr ⟨by omega, ?_⟩
        have : R % h = (R - h) % h := by rw [show R = (R - h) + h by omega, Int.add_emod_right, Int.add_sub_cancel]
        rw [this, Int.emod_eq_of_lt (by omega) (by omega)]
    generalize R % h = t at *
    simp only [bne_iff_ne, Bool.and_eq_true, Bool.or_eq_true, ne_eq, or_assoc]
    constructor
    · rintro ⟨a, b⟩
      refine ⟨by omega, ?_⟩
      rcases b with b | b | b
      · exact .inl b
      · exact .inr (.inl (by omega))
      · exact .inr (.inr b)
    · rintro ⟨a, b⟩
      refine ⟨by omega, ?_⟩
      rcases b with b | b | b
      · exact .inl b
      · exact .inr (.inl (by omega))
      · exact .inr (.inr b)
  by_cases c : h ≤ R ∧ (more = true ∨ R ≠ h ∨ A % 2 ≠ 0)
  · rw [if_pos (key.2 c), if_pos c]
  · rw [if_neg (fun x => c (key.1 x)), if_neg c]

/-- The top bits, and whether something was left, are rounded as the whole. -/
theorem round_top (v o c : Int) (more lost : Bool) (ho : 0 ≤ o) (hc : 1 ≤ c) (hl : lost = false ↔ v % pw o = 0) :
    roundI (v / pw o) c (more || lost) = roundI v (c + o) more := by
  have hq := pw_pos o
  have r0 := Int.emod_nonneg v (show pw o ≠ 0 by omega)
  have r1 := Int.emod_lt_of_pos v hq
  have ev := Int.mul_ediv_add_emod v (pw o)
  rw [round_eq _ c _ hc, round_eq v (c + o) more (by omega)]
  have e1 : v / pw (c + o) = v / pw o / pw c := by rw [Int.add_comm, pw_add _ _ ho (by omega), Int.ediv_ediv_of_nonneg (Int.le_of_lt hq)]
  have e2 : v % pw (c + o) = (v / pw o % pw c) * pw o + v % pw o := by
    have a := Int.mul_ediv_add_emod v (pw (c + o))
    have b := Int.mul_ediv_add_emod (v / pw o) (pw c)
    rw [e1, pw_add c o (by omega) ho] at a
    have k : pw c * pw o * (v / pw o / pw c) = (v / pw o - v / pw o % pw c) * pw o := by
      rw [show v / pw o - v / pw o % pw c = pw c * (v / pw o / pw c) by omega, Int.mul_assoc, Int.mul_comm (pw o), ← Int.mul_assoc]
    rw [k, Int.sub_mul, Int.mul_comm (v / pw o) (pw o)] at a
    rw [pw_add c o (by omega) ho]
    omega
  have e3 : pw (c + o - 1) = pw (c - 1) * pw o := by rw [← pw_add _ _ (by omega) ho]; congr 1; omega
  rw [e1, e2, e3]
  have hp := pw_pos (c - 1)
  generalize v / pw o % pw c = R at *
  generalize v / pw o / pw c = A at *
  generalize v % pw o = r at *
  generalize pw o = q at *
  generalize pw (c - 1) = h at *
  have k1 : h ≤ R ↔ h * q ≤ R * q + r := by
    constructor
    · intro k; have := Int.mul_le_mul_of_nonneg_right k (Int.le_of_lt hq); omega
    · intro k
      rcases Int.lt_or_le R h with k2 | k2
      · have := Int.mul_le_mul_of_nonneg_right (show R + 1 ≤ h by omega) (Int.le_of_lt hq)
        rw [Int.add_mul] at this; omega
      · exact k2
  have k2 : (R = h ∧ r = 0) ↔ R * q + r = h * q := by
    constructor
    · rintro ⟨rfl, rfl⟩; omega
    · intro k
      have : R = h := by
        rcases Int.lt_trichotomy R h with g | g | g
        · have := Int.mul_le_mul_of_nonneg_right (show R + 1 ≤ h by omega) (Int.le_of_lt hq)
          rw [Int.add_mul] at this; omega
        · exact g
        · have := Int.mul_le_mul_of_nonneg_right (show h + 1 ≤ R by omega) (Int.le_of_lt hq)
          rw [Int.add_mul] at this; omega
      subst this; exact ⟨rfl, by omega⟩
  have k3 : ((more || lost) = true ∨ R ≠ h ∨ A % 2 ≠ 0) ↔ (more = true ∨ R * q + r ≠ h * q ∨ A % 2 ≠ 0) := by
    cases more
    · cases lost
      · have : r = 0 := hl.1 rfl
        simp only [Bool.or_self, Bool.false_eq_true, false_or]
        constructor
        · rintro (g | g)
          · exact .inl (fun e => g (k2.2 e).1)
          · exact .inr g
        · rintro (g | g)
          · exact .inl (fun e => g (k2.1 ⟨e, this⟩))
          · exact .inr g
      · have : r ≠ 0 := fun e => by have := hl.2 e; cases this
        simp only [Bool.or_true, true_or, Bool.false_eq_true, false_or, true_iff]
        exact .inl (fun e => this (k2.2 e).2)
    · simp
  simp only [k1, k3]

theorem size_of' {v : Int} (h1 : 9223372036854775808 ≤ v) (h2 : v < 18446744073709551616) : (Lib.bitLen v.toNat : Int) = 64 := by
  obtain ⟨a, b, _⟩ := bitLen_bd v.toNat (by omega)
  have b := b (by omega)
  have : Lib.bitLen v.toNat = 64 := len_unique (v := v) (by generalize 2 ^ Lib.bitLen v.toNat = z at *; omega) (by generalize 2 ^ Lib.bitLen v.toNat = z at *; omega) (by have : (((2 ^ 64 : Nat)) : Int) = 18446744073709551616 := rfl; omega) (by have : (((2 ^ 64 : Nat)) : Int) = 18446744073709551616 := rfl; omega)
  rw [this]; rfl
def packV (v c : Int) (more : Bool) : Int := if c ≤ 0 then v * pw (-c) else roundI v c more
/-- The place of the lowest bit that is kept of a number of n bits times 2^e. -/
def placeI (e n : Int) : Int := max (e + n - 53) (-1074)
/-- The nearest number to v times 2^e, v of n bits. -/
def joinV (neg : Bool) (v e n : Int) (more : Bool) : Int :=
  if v = 0 ∨ e < -2148 - n then signI neg
  else if 1024 < e ∨ 1024 < e + n then signI neg + 9218868437227405312
  else signI neg + (packV v (placeI e n - e) more + (placeI e n + 1074) * 4503599627370496)

theorem join_full {neg more : Bool} {v e : Int} {w : World} {en : Ending} {w' : World} (h0 : 0 ≤ v) (h : JoinPost neg v e more w en w') :
    ∃ n : Nat, n ≤ 128 ∧ v < (2 ^ n : Nat) ∧ (v ≠ 0 → ((2 ^ n : Nat) : Int) ≤ 2 * v) ∧ en = .returned (.int .u64 (joinV neg v e n more)) ∧ Below w.heap.size w w' := by
  obtain ⟨n, over, top, size, lost, hn, h1, h2, rfl, rfl, hl, rfl, rfl, hb⟩ := h
  refine ⟨n, hn, h1, h2, ?_, hb⟩
  congr 2
  by_cases hz : v = 0
  · subst hz
    have : (0 : Int) / pw (max ((n : Int) - 64) 0) = 0 := Int.zero_ediv _
    unfold nearI joinV
    rw [this, if_pos (.inl rfl), if_pos (.inl rfl)]
  have h2 := h2 hz
  have en2 : ((2 ^ n : Nat) : Int) = pw (n : Int) := rfl
  by_cases c : (n : Int) ≤ 64
  · have e0 : max ((n : Int) - 64) 0 = 0 := by omega
    rw [e0] at hl ⊢
    rw [show pw 0 = 1 from rfl] at hl ⊢
    rw [Int.ediv_one]
    have hl2 : lost = false := hl.2 (by omega)
    have hv64 : v < 18446744073709551616 := by
      rw [en2] at h1
      have := pow_lt (show 0 ≤ (n : Int) by omega) c
      rw [pw_64] at this; omega
    obtain ⟨s1, s2, s3⟩ := bitLen_bd v.toNat (by omega)
    have s2 := s2 (by omega)
    have hs : Lib.bitLen v.toNat = n := len_unique (v := v) (by generalize 2 ^ Lib.bitLen v.toNat = z at *; omega) (by generalize 2 ^ Lib.bitLen v.toNat = z at *; omega) h1 h2
    rw [hs, hl2, Bool.or_false]
    unfold nearI joinV
    by_cases c1 : v = 0 ∨ e < -2148 - 0 - (n : Int)
    · have d1 : v = 0 ∨ e < -2148 - (n : Int) := by omega
      rw [if_pos c1, if_pos d1]
    · have d1 : ¬(v = 0 ∨ e < -2148 - (n : Int)) := by omega
      rw [if_neg c1, if_neg d1]
      by_cases c2 : 1024 < e ∨ 1024 < 0 + e + (n : Int)
      · have d2 : 1024 < e ∨ 1024 < e + (n : Int) := by omega
        rw [if_pos c2, if_pos d2]
      · have d2 : ¬(1024 < e ∨ 1024 < e + (n : Int)) := by omega
        rw [if_neg c2, if_neg d2]
        have eL : lastI (e + 0) n = placeI e n := by unfold lastI placeI; congr 1; omega
        rw [eL, Int.add_zero]
        congr 2
        unfold packI packV
        by_cases c3 : placeI e n - e ≤ 0
        · rw [if_pos c3, if_pos c3]
          have c4 : -(placeI e n - e) ≤ 53 - (n : Int) := by unfold placeI; omega
          rw [Nat.min_eq_left (by omega), pw_eq, IntKind.wrap_u64, Int.emod_eq_of_lt (Int.mul_nonneg h0 (Int.le_of_lt (pw_pos _)))]
          rw [en2] at h1
          have a := Int.mul_lt_mul_of_pos_right h1 (pw_pos (-(placeI e n - e)))
          rw [← pw_add _ _ (by omega) (by omega)] at a
          have b := pow_lt (show 0 ≤ (n : Int) + -(placeI e n - e) by omega) (show (n : Int) + -(placeI e n - e) ≤ 64 by omega)
          rw [pw_64] at b
          omega
        · rw [if_neg c3, if_neg c3]
  · have e0 : max ((n : Int) - 64) 0 = (n : Int) - 64 := by omega
    rw [e0] at hl ⊢
    have hq := pw_pos ((n : Int) - 64)
    have esp : pw (n : Int) = pw ((n : Int) - 64) * 18446744073709551616 := by rw [← pw_64, ← pw_add _ _ (by omega) (by omega)]; congr 1; omega
    have t1 : v / pw ((n : Int) - 64) < 18446744073709551616 := Int.ediv_lt_of_lt_mul hq (by rw [en2, esp, Int.mul_comm] at h1; exact h1)
    have t0 : 9223372036854775808 ≤ v / pw ((n : Int) - 64) := by
      rw [Int.le_ediv_iff_mul_le hq, Int.mul_comm]
      rw [en2, esp] at h2; omega
    have hs : (Lib.bitLen (v / pw ((n : Int) - 64)).toNat : Int) = 64 := by
      have := size_of' t0 t1
      exact this
    rw [hs]
    unfold nearI joinV
    by_cases c1 : e < -2148 - (n : Int)
    · have d1 : v / pw ((n : Int) - 64) = 0 ∨ e < -2148 - ((n : Int) - 64) - 64 := by omega
      rw [if_pos d1, if_pos (.inr c1)]
    · have d1 : ¬(v / pw ((n : Int) - 64) = 0 ∨ e < -2148 - ((n : Int) - 64) - 64) := by omega
      have d3 : ¬(v = 0 ∨ e < -2148 - (n : Int)) := by omega
      rw [if_neg d1, if_neg d3]
      by_cases c2 : 1024 < e ∨ 1024 < e + (n : Int)
      · have d2 : 1024 < e ∨ 1024 < (n : Int) - 64 + e + 64 := by omega
        rw [if_pos d2, if_pos c2]
      · have d2 : ¬(1024 < e ∨ 1024 < (n : Int) - 64 + e + 64) := by omega
        rw [if_neg d2, if_neg c2]
        have eL : lastI (e + ((n : Int) - 64)) 64 = placeI e n := by unfold lastI placeI; congr 1; omega
        rw [eL]
        congr 2
        have c3 : 11 ≤ placeI e n - (e + ((n : Int) - 64)) := by unfold placeI; omega
        unfold packI packV
        rw [if_neg (by omega), if_neg (by omega), round_top v ((n : Int) - 64) _ more lost (by omega) (by omega) hl]
        congr 1; omega
end Go.Proofs.YtmjidpkddiinaaaDoor

/-
  A greater int is never joined to a lesser number; a little more is never less, nor more than the next int.
-/
namespace Go.Proofs.YtmjidpkddiinaaaDoor
open Go.RowKit Go.Shelf

/-- n is how many bits v has. -/
structure Bits (v : Int) (n : Nat) : Prop where
  v0 : 0 ≤ v
  lt : v < pw n
  ge : v ≠ 0 → pw n ≤ 2 * v

theorem pw_half (c : Int) (h : 1 ≤ c) : pw c = 2 * pw (c - 1) := by
  have := pw_add (c - 1) 1 (by omega) (by decide)
  rw [show c - 1 + 1 = c by omega, show pw 1 = 2 from rfl] at this; omega
theorem pw_lt_of {a b : Int} (_ha : 0 ≤ a) (hb : 0 ≤ b) (h : pw a < pw b) : a < b := by
  rcases Int.lt_or_le a b with h1 | h1
  · exact h1
  · have := pow_lt hb h1; omega
theorem bits_mono {a b : Int} {na nb : Nat} (_ha : Bits a na) (hb : Bits b nb) (h : a ≤ b) (hz : a ≠ 0) : na ≤ nb := by
  have h1 := _ha.ge hz
  have h2 := hb.lt
  have h3 : pw (na : Int) < pw ((nb : Int) + 1) := by
    rw [pw_add _ _ (by omega) (by decide), show pw 1 = 2 from rfl]; omega
  have := pw_lt_of (by omega) (by omega) h3
  omega

theorem packV_bd {v c : Int} {n : Nat} (more : Bool) (hv : Bits v n) (hc : (n : Int) - 53 ≤ c) : 0 ≤ packV v c more ∧ packV v c more ≤ 9007199254740992 := by
  have e53 : pw 53 = 9007199254740992 := rfl
  have h1 := hv.lt
  have h0 := hv.v0
  unfold packV
  by_cases k : c ≤ 0
  · rw [if_pos k]
    have a := Int.mul_lt_mul_of_pos_right h1 (pw_pos (-c))
    rw [← pw_add _ _ (by omega) (by omega)] at a
    have b := pow_lt (show 0 ≤ (n : Int) + -c by omega) (show (n : Int) + -c ≤ 53 by omega)
    exact ⟨Int.mul_nonneg h0 (Int.le_of_lt (pw_pos _)), by omega⟩
  · rw [if_neg k]
    have k0 : 0 ≤ v / pw c := Int.ediv_nonneg h0 (Int.le_of_lt (pw_pos _))
    have k1 : v / pw c < 9007199254740992 := by
      refine Int.ediv_lt_of_lt_mul (pw_pos _) ?_
      have b := pow_lt (show 0 ≤ (n : Int) by omega) (show (n : Int) ≤ 53 + c by omega)
      rw [pw_add 53 c (by decide) (by omega), e53] at b
      omega
    unfold roundI
    split <;> omega
theorem round_ge (v c : Int) (more : Bool) : v / pw c ≤ roundI v c more := by unfold roundI; split <;> omega
theorem round_le (v c : Int) (more : Bool) : roundI v c more ≤ v / pw c + 1 := by unfold roundI; split <;> omega
theorem packV_full {v : Int} {n : Nat} (more : Bool) (hv : Bits v n) (hz : v ≠ 0) : 4503599627370496 ≤ packV v ((n : Int) - 53) more := by
  have h1 := hv.ge hz
  have e52 : pw 52 = 4503599627370496 := rfl
  unfold packV
  by_cases k : (n : Int) - 53 ≤ 0
  · rw [if_pos k]
    have a := Int.mul_le_mul_of_nonneg_right h1 (Int.le_of_lt (pw_pos (-((n : Int) - 53))))
    rw [← pw_add _ _ (by omega) (by omega), show (n : Int) + -((n : Int) - 53) = 53 by omega, show pw 53 = 9007199254740992 from rfl, Int.mul_assoc] at a
    omega
  · rw [if_neg k]
    refine Int.le_trans ?_ (round_ge _ _ _)
    rw [Int.le_ediv_iff_mul_le (pw_pos _), ← e52, ← pw_add _ _ (by decide) (by omega), show (52 : Int) + ((n : Int) - 53) = (n : Int) - 1 by omega]
    rw [pw_half n (by omega)] at h1
    omega

/-! ### At one place a greater number is rounded to no lesser one -/
theorem div_mod_cmp {a b p : Int} (hp : 0 < p) (h : a < b) : a / p < b / p ∨ (a / p = b / p ∧ a % p < b % p) := by
  have e1 := Int.mul_ediv_add_emod a p
  have e2 := Int.mul_ediv_add_emod b p
  have m0 := Int.emod_nonneg a (Int.ne_of_gt hp)
  have m1 := Int.emod_lt_of_pos b hp
  rcases Int.lt_trichotomy (a / p) (b / p) with k | k | k
  · exact .inl k
  · rw [k] at e1; exact .inr ⟨k, by omega⟩
  · exfalso
    have := Int.mul_le_mul_of_nonneg_left (show b / p + 1 ≤ a / p by omega) (Int.le_of_lt hp)
    rw [Int.mul_add] at this
    omega
theorem pack_more (v c : Int) : packV v c false ≤ packV v c true := by
  unfold packV
  by_cases k : c ≤ 0
  · rw [if_pos k, if_pos k]; omega
  · rw [if_neg k, if_neg k, round_eq v c false (by omega), round_eq v c true (by omega)]
    by_cases h : pw (c - 1) ≤ v % pw c
    · rw [if_pos (show pw (c - 1) ≤ v % pw c ∧ (true = true ∨ _) from ⟨h, .inl rfl⟩)]
      split <;> omega
    · rw [if_neg (fun x => h x.1), if_neg (fun x => h x.1)]; omega
theorem pack_next {a b : Int} (c : Int) (h : a < b) : packV a c true ≤ packV b c false := by
  unfold packV
  by_cases k : c ≤ 0
  · rw [if_pos k, if_pos k]; exact Int.mul_le_mul_of_nonneg_right (by omega) (Int.le_of_lt (pw_pos _))
  · rw [if_neg k, if_neg k]
    rcases div_mod_cmp (pw_pos c) h with h1 | ⟨h1, h2⟩
    · have := round_le a c true; have := round_ge b c false; omega
    · rw [round_eq a c true (by omega), round_eq b c false (by omega), h1]
      by_cases hh : pw (c - 1) ≤ a % pw c
      · rw [if_pos ⟨hh, .inl rfl⟩, if_pos ⟨by omega, .inr (.inl (by omega))⟩]; omega
      · rw [if_neg (fun x => hh x.1)]; split <;> omega
theorem pack_mono {a b : Int} (c : Int) (h : a ≤ b) : packV a c false ≤ packV b c false := by
  rcases Int.lt_or_eq_of_le h with h | rfl
  · exact Int.le_trans (pack_more a c) (pack_next c h)
  · omega

theorem joinV_bd {v e : Int} {n : Nat} (more : Bool) (hv : Bits v n) : 0 ≤ joinV false v e n more ∧ joinV false v e n more ≤ 9218868437227405312 := by
  unfold joinV signI
  simp only [Bool.false_eq_true, if_false]
  split
  · omega
  · split
    · omega
    · have hb := packV_bd (c := placeI e n - e) more hv (by unfold placeI; omega)
      have : -1074 ≤ placeI e n ∧ placeI e n ≤ 971 := by unfold placeI; omega
      omega
theorem joinV_mono {a b e : Int} {na nb : Nat} {ma mb : Bool} (ha : Bits a na) (hb : Bits b nb) (h : a ≤ b) (hp : ∀ c, packV a c ma ≤ packV b c mb) : joinV false a e na ma ≤ joinV false b e nb mb := by
  by_cases hz : a = 0
  · have : joinV false a e na ma = 0 := by unfold joinV; rw [if_pos (.inl hz)]; rfl
    rw [this]; exact (joinV_bd mb hb).1
  have hbz : b ≠ 0 := by have := ha.v0; omega
  have hn := bits_mono ha hb h hz
  by_cases c1 : e < -2148 - (na : Int)
  · have : joinV false a e na ma = 0 := by unfold joinV; rw [if_pos (.inr c1)]; rfl
    rw [this]; exact (joinV_bd mb hb).1
  by_cases c2 : 1024 < e ∨ 1024 < e + (nb : Int)
  · have : joinV false b e nb mb = 9218868437227405312 := by
      have d : ¬(b = 0 ∨ e < -2148 - (nb : Int)) := by omega
      unfold joinV; rw [if_neg d, if_pos c2]; rfl
    rw [this]; exact (joinV_bd ma ha).2
  have d1 : ¬(a = 0 ∨ e < -2148 - (na : Int)) := by omega
  have d2 : ¬(b = 0 ∨ e < -2148 - (nb : Int)) := by omega
  have d3 : ¬(1024 < e ∨ 1024 < e + (na : Int)) := by omega
  unfold joinV
  rw [if_neg d1, if_neg d2, if_neg d3, if_neg c2]
  have hL : placeI e na ≤ placeI e nb := by unfold placeI; omega
  rcases Int.lt_or_eq_of_le hL with hL | hL
  · have p1 := (packV_bd (c := placeI e na - e) ma ha (by unfold placeI; omega)).2
    have e2 : placeI e nb - e = (nb : Int) - 53 := by unfold placeI at *; omega
    have p2 := packV_full mb hb hbz
    rw [e2]
    omega
  · rw [hL]
    have := hp (placeI e nb - e)
    omega
end Go.Proofs.YtmjidpkddiinaaaDoor

/-
  Rounding, over whole numbers of any size: what is exact, what is scaled, what is left to a last bit.
-/
namespace Go.Proofs.YtmjidpkddiinaaaDoor
open Go.RowKit Go.Shelf

/-- How many bits a number has. -/
def blen (v : Int) : Nat := if v ≤ 0 then 0 else v.toNat.log2 + 1
theorem blen_bits {v : Int} (h : 0 ≤ v) : Bits v (blen v) := by
  unfold blen
  by_cases c : v ≤ 0
  · rw [if_pos c]; exact ⟨h, by show v < 1; omega, fun hz => by omega⟩
  · rw [if_neg c]
    obtain ⟨n, rfl⟩ := Int.eq_ofNat_of_zero_le h
    have a := Nat.log2_self_le (n := n) (by omega)
    have b := Nat.lt_log2_self (n := n)
    rw [Int.toNat_natCast]
    refine ⟨h, ?_, fun _ => ?_⟩
    · show (n : Int) < ((2 ^ (n.log2 + 1) : Nat) : Int)
      exact_mod_cast b
    · show ((2 ^ (n.log2 + 1) : Nat) : Int) ≤ 2 * (n : Int)
      rw [Nat.pow_succ]; generalize 2 ^ n.log2 = q at *; omega
theorem bits_unique {v : Int} {n m : Nat} (hz : v ≠ 0) (h1 : Bits v n) (h2 : Bits v m) : n = m := len_unique h1.lt (h1.ge hz) h2.lt (h2.ge hz)
theorem blen_of {v : Int} {n : Nat} (hz : v ≠ 0) (h : Bits v n) : blen v = n := bits_unique hz (blen_bits h.v0) h
theorem mul_ne {v k : Int} (hv : 0 ≤ v) (hz : v ≠ 0) : v * pw k ≠ 0 := by
  have := Int.mul_pos (show 0 < v by omega) (pw_pos k); omega
theorem bits_scale {v k : Int} {n : Nat} (hk : 0 ≤ k) (h : Bits v n) : v ≠ 0 → Bits (v * pw k) (n + k.toNat) := by
  intro hz
  have e : ((n + k.toNat : Nat) : Int) = (n : Int) + k := by omega
  refine ⟨Int.mul_nonneg h.v0 (Int.le_of_lt (pw_pos _)), ?_, fun _ => ?_⟩
  · rw [e, pw_add _ _ (by omega) hk]; exact Int.mul_lt_mul_of_pos_right h.lt (pw_pos _)
  · rw [e, pw_add _ _ (by omega) hk, ← Int.mul_assoc]; exact Int.mul_le_mul_of_nonneg_right (h.ge hz) (Int.le_of_lt (pw_pos _))

/-- The nearest number to v times 2^e. -/
def rndI (neg : Bool) (v e : Int) : Int := joinV neg v e (blen v) false

theorem packV_scale (v c k : Int) (hk : 0 ≤ k) : packV (v * pw k) (c + k) false = packV v c false := by
  unfold packV
  by_cases c1 : c ≤ 0
  · rw [if_pos c1]
    by_cases c2 : c + k ≤ 0
    · rw [if_pos c2, Int.mul_assoc, ← pw_add _ _ hk (by omega)]; congr 2; omega
    · rw [if_neg c2, round_eq _ _ _ (by omega)]
      have e : v * pw k = v * pw (-c) * pw (c + k) := by rw [Int.mul_assoc, ← pw_add _ _ (by omega) (by omega)]; congr 2; omega
      have hp := pw_pos (c + k - 1)
      rw [e, Int.mul_emod_left, if_neg (by omega), Int.mul_ediv_cancel _ (Int.ne_of_gt (pw_pos _))]
  · rw [if_neg c1, if_neg (by omega)]
    have := round_top (v * pw k) k c false false hk (by omega) (by simp [Int.mul_emod_left])
    rw [Int.mul_ediv_cancel _ (Int.ne_of_gt (pw_pos _))] at this
    exact this.symm

theorem rnd_scale (neg : Bool) {v k : Int} (e : Int) (hv : 0 ≤ v) (hk : 0 ≤ k) : rndI neg (v * pw k) e = rndI neg v (e + k) := by
  unfold rndI
  by_cases hz : v = 0
  · subst hz; rw [Int.zero_mul]; unfold joinV; rw [if_pos (.inl rfl), if_pos (.inl rfl)]
  have hb := blen_bits hv
  rw [blen_of (mul_ne hv hz) (bits_scale hk hb hz)]
  generalize blen v = n at *
  have hn : 1 ≤ n := by
    rcases Nat.eq_zero_or_pos n with h | h
    · subst h; have := hb.lt; rw [show pw ((0 : Nat) : Int) = 1 from rfl] at this; omega
    · exact h
  have en : ((n + k.toNat : Nat) : Int) = (n : Int) + k := by omega
  have hm := mul_ne (k := k) hv hz
  unfold joinV
  rw [en]
  by_cases c1 : e + k < -2148 - (n : Int)
  · have d1 : e < -2148 - ((n : Int) + k) := by omega
    rw [if_pos (.inr d1), if_pos (.inr c1)]
  · have d1 : ¬(v * pw k = 0 ∨ e < -2148 - ((n : Int) + k)) := by omega
    have d2 : ¬(v = 0 ∨ e + k < -2148 - (n : Int)) := by omega
    rw [if_neg d1, if_neg d2]
    by_cases c2 : 1024 < e + k + (n : Int)
    · have d3 : 1024 < e ∨ 1024 < e + ((n : Int) + k) := by omega
      have d4 : 1024 < e + k ∨ 1024 < e + k + (n : Int) := by omega
      rw [if_pos d3, if_pos d4]
    · have d3 : ¬(1024 < e ∨ 1024 < e + ((n : Int) + k)) := by omega
      have d4 : ¬(1024 < e + k ∨ 1024 < e + k + (n : Int)) := by omega
      rw [if_neg d3, if_neg d4]
      have ep : placeI e ((n : Int) + k) = placeI (e + k) n := by unfold placeI; congr 1; omega
      rw [ep, show placeI (e + k) n - e = (placeI (e + k) n - (e + k)) + k by omega, packV_scale _ _ _ hk]

theorem bits_div {v d : Int} {n : Nat} (hd : 0 ≤ d) (hv : 0 ≤ v) (hz : v / pw d ≠ 0) (h : Bits (v / pw d) n) : Bits v (n + d.toNat) := by
  have e : ((n + d.toNat : Nat) : Int) = (n : Int) + d := by omega
  have hp := pw_pos d
  refine ⟨hv, ?_, fun _ => ?_⟩
  · rw [e, pw_add _ _ (by omega) hd]
    have a := h.lt
    have b := Int.lt_mul_ediv_self_add (x := v) (k := pw d) hp
    have c := Int.mul_le_mul_of_nonneg_right (show v / pw d + 1 ≤ pw (n : Int) by omega) (Int.le_of_lt hp)
    rw [Int.add_mul, Int.mul_comm (v / pw d)] at c
    omega
  · rw [e, pw_add _ _ (by omega) hd]
    have a := h.ge hz
    have b := Int.mul_ediv_add_emod v (pw d)
    have b0 := Int.emod_nonneg v (Int.ne_of_gt hp)
    have c := Int.mul_le_mul_of_nonneg_right a (Int.le_of_lt hp)
    rw [Int.mul_assoc, Int.mul_comm (v / pw d)] at c
    omega

theorem rnd_sticky (neg : Bool) {v d : Int} (e : Int) (lost : Bool) (hv : 0 ≤ v) (hd : 0 ≤ d) (hb : d = 0 ∨ pw 60 ≤ v / pw d) (hl : lost = false ↔ v % pw d = 0) :
    joinV neg (v / pw d) (e + d) (blen (v / pw d)) lost = rndI neg v e := by
  unfold rndI
  by_cases hd0 : d = 0
  · subst hd0
    have : v % pw 0 = 0 := by rw [show pw 0 = 1 from rfl]; omega
    rw [hl.2 this, show pw 0 = 1 from rfl, Int.ediv_one, Int.add_zero]
  have hb : pw 60 ≤ v / pw d := by omega
  have hz : v / pw d ≠ 0 := by have := pw_pos 60; omega
  have hvz : v ≠ 0 := fun h => by rw [h, Int.zero_ediv] at hz; exact hz rfl
  have hB := blen_bits (v := v / pw d) (by have := pw_pos 60; omega)
  rw [blen_of hvz (bits_div hd hv hz hB)]
  have hn : 60 < blen (v / pw d) := by
    have := pw_lt_of (by decide) (by omega) (show pw 60 < pw (blen (v / pw d) : Int) by have := hB.lt; omega)
    omega
  generalize blen (v / pw d) = n at *
  have en : ((n + d.toNat : Nat) : Int) = (n : Int) + d := by omega
  unfold joinV
  rw [en]
  by_cases c1 : e + d < -2148 - (n : Int)
  · have d1 : e < -2148 - ((n : Int) + d) := by omega
    rw [if_pos (.inr c1), if_pos (.inr d1)]
  · have d1 : ¬(v = 0 ∨ e < -2148 - ((n : Int) + d)) := by omega
    have d2 : ¬(v / pw d = 0 ∨ e + d < -2148 - (n : Int)) := by omega
    rw [if_neg d2, if_neg d1]
    by_cases c2 : 1024 < e + d + (n : Int)
    · have d3 : 1024 < e ∨ 1024 < e + ((n : Int) + d) := by omega
      have d4 : 1024 < e + d ∨ 1024 < e + d + (n : Int) := by omega
      rw [if_pos d4, if_pos d3]
    · have d3 : ¬(1024 < e ∨ 1024 < e + ((n : Int) + d)) := by omega
      have d4 : ¬(1024 < e + d ∨ 1024 < e + d + (n : Int)) := by omega
      rw [if_neg d4, if_neg d3]
      have ep : placeI e ((n : Int) + d) = placeI (e + d) n := by unfold placeI; congr 1; omega
      have c3 : 1 ≤ placeI (e + d) n - (e + d) := by unfold placeI; omega
      rw [ep]
      unfold packV
      rw [if_neg (by omega), if_neg (by omega)]
      have := round_top v d (placeI (e + d) n - (e + d)) false lost hd c3 hl
      rw [Bool.false_or] at this
      rw [this]
      congr 3; omega

theorem rnd_mono {a b : Int} (e : Int) (ha : 0 ≤ a) (h : a ≤ b) : rndI false a e ≤ rndI false b e :=
  joinV_mono (blen_bits ha) (blen_bits (by omega)) h (fun c => pack_mono c h)
theorem rnd_bd (e : Int) {a : Int} (ha : 0 ≤ a) : 0 ≤ rndI false a e ∧ rndI false a e ≤ 9218868437227405312 := joinV_bd false (blen_bits ha)
theorem rnd_sign (v e : Int) : rndI true v e = rndI false v e + 9223372036854775808 := by
  unfold rndI joinV signI
  simp only [Bool.false_eq_true, if_false, if_true]
  split
  · omega
  · split <;> omega
theorem rnd_neg (neg : Bool) (v e : Int) : rndI neg v e = signI neg + rndI false v e := by
  cases neg
  · unfold signI; simp
  · rw [rnd_sign]; unfold signI; simp; omega
theorem rnd_zero (neg : Bool) (e : Int) : rndI neg 0 e = signI neg := by unfold rndI joinV; rw [if_pos (.inl rfl)]

/-! ### What a number is: an int times 2^-1074 -/
def XI (x : Int) : Int := mantI x * pw (powI x + 1074)
theorem mant_bd (x : Int) (h : Word x) : 0 ≤ mantI x ∧ mantI x < 9007199254740992 ∧ -1074 ≤ powI x ∧ powI x ≤ 971 := by
  obtain ⟨_, a, b, c, d⟩ := abs_parts x h
  unfold mantI powI
  repeat' split
  all_goals omega
theorem XI_nonneg (x : Int) (h : Word x) : 0 ≤ XI x := Int.mul_nonneg (mant_bd x h).1 (Int.le_of_lt (pw_pos _))
theorem pack_zero (v : Int) : packV v 0 false = v := by unfold packV; rw [if_pos (by decide), show pw (-0) = 1 from rfl]; omega
theorem mant_self (x : Int) (h : Word x) (hf : expI x ≠ 2047) : rndI false (mantI x) (powI x) = absI x := by
  obtain ⟨ea, a, b, c, d⟩ := abs_parts x h
  unfold rndI
  by_cases he : expI x = 0
  · have em : mantI x = fracI x := by unfold mantI; rw [if_neg hf, if_pos he]
    have ep : powI x = -1074 := by unfold powI; rw [if_neg hf, if_pos he]
    rw [em, ep, ea, he]
    by_cases hz : fracI x = 0
    · rw [hz]; unfold joinV; rw [if_pos (.inl rfl)]; rfl
    · have hb := blen_bits c
      have hn : blen (fracI x) ≤ 52 := by
        have h2 := hb.ge hz
        have := pw_lt_of (a := (blen (fracI x) : Int)) (b := 53) (by omega) (by decide) (by rw [show pw 53 = 9007199254740992 from rfl]; omega)
        omega
      generalize blen (fracI x) = n at *
      unfold joinV
      rw [if_neg (by omega), if_neg (by omega)]
      have : placeI (-1074) n = -1074 := by unfold placeI; omega
      rw [this, show (-1074 : Int) - -1074 = 0 by decide, pack_zero]
      unfold signI; simp
  · have em : mantI x = 4503599627370496 + fracI x := by unfold mantI; rw [if_neg hf, if_neg he]
    have ep : powI x = expI x - 1075 := by unfold powI; rw [if_neg hf, if_neg he]
    rw [em, ep, ea]
    have hb : Bits (4503599627370496 + fracI x) 53 := ⟨by omega, by rw [show pw ((53 : Nat) : Int) = 9007199254740992 from rfl]; omega, fun _ => by rw [show pw ((53 : Nat) : Int) = 9007199254740992 from rfl]; omega⟩
    rw [blen_of (by omega) hb]
    unfold joinV
    rw [if_neg (by omega), if_neg (by omega)]
    have : placeI (expI x - 1075) ((53 : Nat) : Int) = expI x - 1075 := by unfold placeI; omega
    rw [this, show (expI x - 1075) - (expI x - 1075) = 0 by omega, pack_zero]
    unfold signI; simp; omega
theorem rnd_self (x : Int) (h : Word x) (hf : expI x ≠ 2047) : rndI false (XI x) (-1074) = absI x := by
  have := mant_bd x h
  unfold XI
  rw [rnd_scale false (-1074) this.1 (by omega), show -1074 + (powI x + 1074) = powI x by omega]
  exact mant_self x h hf
theorem XI_lt {x y : Int} (h1 : Word x) (h2 : Word y) (f1 : expI x ≠ 2047) (f2 : expI y ≠ 2047) (h : absI x < absI y) : XI x < XI y := by
  rcases Int.lt_or_le (XI x) (XI y) with c | c
  · exact c
  · have := rnd_mono (-1074) (XI_nonneg y h2) c
    rw [rnd_self x h1 f1, rnd_self y h2 f2] at this; omega
theorem XI_abs {x y : Int} (h1 : Word x) (h2 : Word y) (h : absI x = absI y) : XI x = XI y ∧ mantI x = mantI y ∧ powI x = powI y := by
  obtain ⟨ea, a, b, c, d⟩ := abs_parts x h1
  obtain ⟨ea', a', b', c', d'⟩ := abs_parts y h2
  have e1 : expI x = expI y := by omega
  have e2 : fracI x = fracI y := by omega
  have e3 : mantI x = mantI y := by unfold mantI; rw [e1, e2]
  have e4 : powI x = powI y := by unfold powI; rw [e1]
  exact ⟨by unfold XI; rw [e3, e4], e3, e4⟩
theorem XI_le {x y : Int} (h1 : Word x) (h2 : Word y) (f1 : expI x ≠ 2047) (f2 : expI y ≠ 2047) (h : absI x ≤ absI y) : XI x ≤ XI y := by
  rcases Int.lt_or_eq_of_le h with h | h
  · exact Int.le_of_lt (XI_lt h1 h2 f1 f2 h)
  · rw [(XI_abs h1 h2 h).1]; omega
theorem XI_le_iff {x y : Int} (h1 : Word x) (h2 : Word y) (f1 : expI x ≠ 2047) (f2 : expI y ≠ 2047) : XI x ≤ XI y ↔ absI x ≤ absI y := by
  constructor
  · intro h
    rcases Int.lt_or_le (absI y) (absI x) with c | c
    · have := XI_lt h2 h1 f2 f1 c; omega
    · exact c
  · exact XI_le h1 h2 f1 f2
theorem XI_inj {x y : Int} (h1 : Word x) (h2 : Word y) (f1 : expI x ≠ 2047) (f2 : expI y ≠ 2047) (h : XI x = XI y) : absI x = absI y := by
  have a := (XI_le_iff h1 h2 f1 f2).1 (by omega)
  have b := (XI_le_iff h2 h1 f2 f1).1 (by omega)
  omega
theorem mant_zero (x : Int) (h : Word x) (hf : expI x ≠ 2047) : mantI x = 0 ↔ absI x = 0 := by
  obtain ⟨ea, a, b, c, d⟩ := abs_parts x h
  unfold mantI
  rw [if_neg hf]
  split <;> omega
theorem XI_zero (x : Int) (h : Word x) (hf : expI x ≠ 2047) : XI x = 0 ↔ absI x = 0 := by
  rw [← mant_zero x h hf]
  unfold XI
  constructor
  · intro e; rcases Int.mul_eq_zero.1 e with e | e
    · exact e
    · have := pw_pos (powI x + 1074); omega
  · intro e; rw [e, Int.zero_mul]
theorem abs_mant {x y : Int} (h1 : Word x) (h2 : Word y) (f1 : expI x ≠ 2047) (_f2 : expI y ≠ 2047) (h : absI y ≤ absI x) : powI y ≤ powI x := by
  obtain ⟨ea, a, b, c, d⟩ := abs_parts x h1
  obtain ⟨ea', a', b', c', d'⟩ := abs_parts y h2
  unfold powI
  repeat' split
  all_goals omega
theorem fin_of_kind {x : Int} (h : Word x) (hk : kindI x < 3) : expI x ≠ 2047 := by
  rw [kind_parts x h] at hk
  intro e
  rw [if_pos e] at hk
  split at hk <;> omega
theorem kind_of_fin {x : Int} (h : Word x) (hf : expI x ≠ 2047) : kindI x < 3 := by
  rw [kind_parts x h, if_neg hf]
  repeat' split
  all_goals omega
theorem nz_of_kind {x : Int} (h : Word x) (_hk : kindI x < 3) (h0 : kindI x ≠ 0) : absI x ≠ 0 := by
  obtain ⟨ea, a, b, c, d⟩ := abs_parts x h
  intro e
  apply h0
  rw [kind_parts x h]
  have e1 : expI x = 0 := by omega
  have e2 : fracI x = 0 := by omega
  rw [e1, e2]; rfl
end Go.Proofs.YtmjidpkddiinaaaDoor

