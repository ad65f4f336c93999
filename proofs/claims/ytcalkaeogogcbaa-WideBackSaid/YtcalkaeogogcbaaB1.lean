/-
  The statement WideBack, walked: what was added is taken away again; the quotient times the divisor, and what is left, is the number; what is shifted up and down is as it was.
-/
import Derived.Test.YtcalkaeogogcbaaW9
namespace Go.Proofs.Ytcalkaeogogcbaa
open Go.RowKit Go.Shelf

/-! ### The calls, with what comes out known ahead -/
theorem AddPost.at {s r1 r2 : Int} {o : Bool} (h1 : Word r1) (h2 : Word r2) (hs : (o = true ∧ val r1 r2 + 340282366920938463463374607431768211456 = s) ∨ (o = false ∧ val r1 r2 = s)) :
    ∀ (w : World) (e : Ending) (w' : World), AddPost s w e w' → e = .returned (.tuple #[.agg #[.int .u64 r1, .int .u64 r2], .bool o]) ∧ Below w.heap.size w w' := by
  rintro w e w' ⟨h, l, o', rfl, a1, a2, hf, hb⟩
  refine ⟨?_, hb⟩
  have : h = r1 ∧ l = r2 ∧ o' = o := by
    unfold Word val at *
    rcases hs with ⟨rfl, hs⟩ | ⟨rfl, hs⟩ <;> rcases hf with ⟨rfl, hf⟩ | ⟨rfl, hf⟩
    all_goals first | exact ⟨by omega, by omega, rfl⟩ | (exfalso; omega)
  obtain ⟨rfl, rfl, rfl⟩ := this; rfl
theorem SubPost.at {s r1 r2 : Int} {o : Bool} (h1 : Word r1) (h2 : Word r2) (hs : (o = true ∧ val r1 r2 = s + 340282366920938463463374607431768211456) ∨ (o = false ∧ val r1 r2 = s)) :
    ∀ (w : World) (e : Ending) (w' : World), SubPost s w e w' → e = .returned (.tuple #[.agg #[.int .u64 r1, .int .u64 r2], .bool o]) ∧ Below w.heap.size w w' := by
  rintro w e w' ⟨h, l, o', rfl, a1, a2, hf, hb⟩
  refine ⟨?_, hb⟩
  have : h = r1 ∧ l = r2 ∧ o' = o := by
    unfold Word val at *
    rcases hs with ⟨rfl, hs⟩ | ⟨rfl, hs⟩ <;> rcases hf with ⟨rfl, hf⟩ | ⟨rfl, hf⟩
    all_goals first | exact ⟨by omega, by omega, rfl⟩ | (exfalso; omega)
  obtain ⟨rfl, rfl, rfl⟩ := this; rfl
theorem U192Post.at {s a b c : Int} (h1 : Word a) (h2 : Word b) (h3 : Word c) (hs : val3 a b c = s) :
    ∀ (w : World) (e : Ending) (w' : World), U192Post s w e w' → e = .returned (.agg #[.int .u64 a, .int .u64 b, .int .u64 c]) ∧ Below w.heap.size w w' := by
  rintro w e w' ⟨h, m, l, rfl, a1, a2, a3, hf, hb⟩
  refine ⟨?_, hb⟩
  have : h = a ∧ m = b ∧ l = c := by unfold Word val3 at *; omega
  obtain ⟨rfl, rfl, rfl⟩ := this; rfl
theorem DropPost.at {v p a b c : Int} {o : Bool} (h1 : Word a) (h2 : Word b) (h3 : Word c) (hs : val3 a b c = v / p) (ho : o = false ↔ v % p = 0) :
    ∀ (w : World) (e : Ending) (w' : World), DropPost v p w e w' → e = .returned (.tuple #[.agg #[.int .u64 a, .int .u64 b, .int .u64 c], .bool o]) ∧ Below w.heap.size w w' := by
  rintro w e w' ⟨h, m, l, o', rfl, a1, a2, a3, hf, hq, hb⟩
  refine ⟨?_, hb⟩
  have : h = a ∧ m = b ∧ l = c := by unfold Word val3 at *; omega
  have e2 : o' = o := by rw [Bool.eq_iff_iff, ← Bool.not_eq_false, ← Bool.not_eq_false, hq, ho]
  obtain ⟨rfl, rfl, rfl⟩ := this; rw [e2]
theorem ShrPost.at {v p a b : Int} {o : Bool} (h1 : Word a) (h2 : Word b) (hs : val a b = v / p) (ho : o = false ↔ v % p = 0) :
    ∀ (w : World) (e : Ending) (w' : World), ShrPost v p w e w' → e = .returned (.tuple #[.agg #[.int .u64 a, .int .u64 b], .bool o]) ∧ Below w.heap.size w w' := by
  rintro w e w' ⟨h, l, o', rfl, a1, a2, hf, hq, hb⟩
  refine ⟨?_, hb⟩
  have : h = a ∧ l = b := by unfold Word val at *; omega
  have e2 : o' = o := by rw [Bool.eq_iff_iff, ← Bool.not_eq_false, ← Bool.not_eq_false, hq, ho]
  obtain ⟨rfl, rfl⟩ := this; rw [e2]
theorem DivPost.at {v b x y r : Int} (h1 : Word x) (h2 : Word y) (hs : val x y = v / b) (hr : r = v % b) :
    ∀ (w : World) (e : Ending) (w' : World), DivPost v b w e w' → e = .returned (.tuple #[.agg #[.int .u64 x, .int .u64 y], .int .u64 r, .int .i64 0]) ∧ Below w.heap.size w w' := by
  rintro w e w' ⟨h, l, r', rfl, a1, a2, a3, hf, hq, hb⟩
  refine ⟨?_, hb⟩
  have : h = x ∧ l = y := by unfold Word val at *; omega
  obtain ⟨rfl, rfl⟩ := this; rw [hq, hr]

theorem words3 (v : Int) (h0 : 0 ≤ v) (h1 : v < 6277101735386680763835789423207666416102355444464034512896) : ∃ a b c, Word a ∧ Word b ∧ Word c ∧ val3 a b c = v :=
  ⟨v / 340282366920938463463374607431768211456, v / 18446744073709551616 % 18446744073709551616, v % 18446744073709551616, ⟨by omega, by omega⟩, ⟨by omega, by omega⟩, ⟨by omega, by omega⟩, by unfold val3; omega⟩

/-! ### What the numbers are -/
/-- The sum, and what is over. -/
theorem back_sum (ah al bh bl : Int) (h1 : Word ah) (h2 : Word al) (h3 : Word bh) (h4 : Word bl) : ∃ s1 s2 o, Word s1 ∧ Word s2 ∧
    ((o = true ∧ val s1 s2 + 340282366920938463463374607431768211456 = val ah al + val bh bl) ∨ (o = false ∧ val s1 s2 = val ah al + val bh bl)) ∧
    ((o = true ∧ val ah al = val s1 s2 - val bh bl + 340282366920938463463374607431768211456) ∨ (o = false ∧ val ah al = val s1 s2 - val bh bl)) := by
  have b1 := val_bd h1 h2
  have b2 := val_bd h3 h4
  by_cases h : val ah al + val bh bl < 340282366920938463463374607431768211456
  · obtain ⟨r, s, a1, a2, a3⟩ := words (val ah al + val bh bl) (by omega) h
    exact ⟨r, s, false, a1, a2, .inr ⟨rfl, a3⟩, .inr ⟨rfl, by omega⟩⟩
  · obtain ⟨r, s, a1, a2, a3⟩ := words (val ah al + val bh bl - 340282366920938463463374607431768211456) (by omega) (by omega)
    exact ⟨r, s, true, a1, a2, .inl ⟨rfl, by omega⟩, .inl ⟨rfl, by omega⟩⟩
/-- The quotient, what is left, the product. -/
theorem back_div (ah al b : Int) (h1 : Word ah) (h2 : Word al) (hb : Word b) (h0 : 0 < b) : ∃ x y r m l, Word x ∧ Word y ∧ Word r ∧ Word m ∧ Word l ∧ val x y = val ah al / b ∧ r = val ah al % b ∧ r < b ∧
    val3 0 m l = val x y * b ∧ val m l + val 0 r = val ah al := by
  have b1 := val_bd h1 h2
  have e := Int.mul_ediv_add_emod (val ah al) b
  have m0 := Int.emod_nonneg (val ah al) (Int.ne_of_gt h0)
  have m1 := Int.emod_lt_of_pos (val ah al) h0
  have q0 := Int.ediv_nonneg b1.1 hb.1
  have q1 := Int.ediv_le_self b b1.1
  rw [Int.mul_comm] at e
  have p0 : 0 ≤ val ah al / b * b := Int.mul_nonneg q0 hb.1
  obtain ⟨x, y, a1, a2, a3⟩ := words (val ah al / b) q0 (by omega)
  obtain ⟨m, l, a4, a5, a6⟩ := words (val ah al / b * b) p0 (by omega)
  refine ⟨x, y, _, m, l, a1, a2, ⟨m0, by have := hb.2; omega⟩, a4, a5, a3, rfl, m1, ?_, ?_⟩
  · rw [a3, ← a6]; unfold val3 val; omega
  · rw [a6]; unfold val at *; omega
theorem pw_word (k : Int) (h0 : 0 ≤ k) (h1 : k < 64) : Word (pw k) := by
  have hp := pw_pos k
  have hs := pw_split k h0 (by omega)
  have hq := pw_pos (64 - k)
  have h2 : 2 ≤ pw (64 - k) := by
    rw [show 64 - k = (63 - k) + 1 by omega, pw_add _ _ (by omega) (by omega)]
    have := pw_pos (63 - k); rw [show pw 1 = 2 from rfl]; omega
  have := Int.mul_le_mul_of_nonneg_left h2 (Int.le_of_lt hp)
  exact ⟨by omega, by omega⟩
/-- Shifted up within three words, and down again. -/
theorem back_drop (ah al k : Int) (h1 : Word ah) (h2 : Word al) (h0 : 0 ≤ k) (hk : k < 64) : ∃ a b c, Word a ∧ Word b ∧ Word c ∧ val3 a b c = val ah al * pw k ∧
    val3 0 ah al = val3 a b c / pw k ∧ (false = false ↔ val3 a b c % pw k = 0) := by
  have b1 := val_bd h1 h2
  have hw := pw_word k h0 hk
  have hp := pw_pos k
  have t0 : 0 ≤ val ah al * pw k := Int.mul_nonneg b1.1 hw.1
  have t1 : val ah al * pw k ≤ 340282366920938463463374607431768211455 * 18446744073709551615 := Int.mul_le_mul (by omega) (by have := hw.2; omega) hw.1 (by decide)
  obtain ⟨a, b, c, a1, a2, a3, a4⟩ := words3 (val ah al * pw k) t0 (by omega)
  refine ⟨a, b, c, a1, a2, a3, a4, ?_, ?_⟩
  · rw [a4, Int.mul_ediv_cancel _ (Int.ne_of_gt hp)]; unfold val3 val; omega
  · rw [a4]; simp
/-- Shifted up within two words, and down again. -/
theorem back_shift (ah al k : Int) (n : Nat) (h1 : Word ah) (h2 : Word al) (h0 : 0 ≤ k) (hk : k < 64) (hl : val ah al < (2 ^ n : Nat)) (hn : (n : Int) + k ≤ 128) : ∃ x y, Word x ∧ Word y ∧ val x y = val ah al * pw k % 340282366920938463463374607431768211456 ∧
    val ah al = val x y / pw k ∧ (false = false ↔ val x y % pw k = 0) := by
  have b1 := val_bd h1 h2
  have hp := pw_pos k
  have t0 : 0 ≤ val ah al * pw k := Int.mul_nonneg b1.1 (Int.le_of_lt hp)
  have t1 : val ah al * pw k < 340282366920938463463374607431768211456 := by
    have e : ((2 ^ n : Nat) : Int) = pw (n : Int) := rfl
    rw [e] at hl
    have s1 := Int.mul_lt_mul_of_pos_right hl hp
    rw [← pw_add _ _ (by omega) h0] at s1
    have s2 : pw ((n : Int) + k) ≤ pw 128 := by
      have := pw_add ((n : Int) + k) (128 - ((n : Int) + k)) (by omega) (by omega)
      rw [show (n : Int) + k + (128 - ((n : Int) + k)) = 128 by omega] at this
      rw [this]
      have k1 := Int.mul_le_mul_of_nonneg_left (show 1 ≤ pw (128 - ((n : Int) + k)) by have := pw_pos (128 - ((n : Int) + k)); omega) (Int.le_of_lt (pw_pos ((n : Int) + k)))
      rw [Int.mul_one] at k1; exact k1
    rw [show pw 128 = 340282366920938463463374607431768211456 from rfl] at s2
    omega
  obtain ⟨x, y, a1, a2, a3⟩ := words (val ah al * pw k) t0 t1
  refine ⟨x, y, a1, a2, by rw [Int.emod_eq_of_lt t0 t1]; exact a3, ?_, ?_⟩
  · rw [a3, Int.mul_ediv_cancel _ (Int.ne_of_gt hp)]
  · rw [a3]; simp
end Go.Proofs.Ytcalkaeogogcbaa
