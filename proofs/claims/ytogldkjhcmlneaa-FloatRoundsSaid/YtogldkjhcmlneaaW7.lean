/-
  The walk of wide.Drop.
-/
import Derived.Test.YtogldkjhcmlneaaW3
import Derived.Deep.DeepCutAuto
import Derived.Deep.CutBlock
namespace Go.Proofs.Ytogldkjhcmlneaa
open Go.RowKit Go.Shelf

/-- What Drop answers. -/
def DropPost (v p : Int) (w : World) (e : Ending) (w' : World) : Prop :=
  ∃ h m l : Int, ∃ o : Bool, e = .returned (.tuple #[.agg #[.int .u64 h, .int .u64 m, .int .u64 l], .bool o]) ∧ Word h ∧ Word m ∧ Word l ∧ val3 h m l = v / p ∧ (o = false ↔ v % p = 0) ∧ Below w.heap.size w w'

/-- What holds when k words have been dropped. -/
structure DropAt (v n : Int) (k : Int) (a b c : Int) (o : Bool) : Prop where
  wa : Word a
  wb : Word b
  wc : Word c
  eq : val3 a b c = v / pw (64 * k)
  lost : o = false ↔ v % pw (64 * k) = 0
  le : k = 0 ∨ 64 * k ≤ n
theorem pw_step (k : Int) (h : 0 ≤ k) : pw (64 * (k + 1)) = pw (64 * k) * 18446744073709551616 := by
  rw [← pw_64, ← pw_add _ _ (by omega) (by omega)]; congr 1; omega
theorem mod_split (v p q : Int) (hp : 0 < p) (hq : 0 < q) : v % (p * q) = 0 ↔ (v % p = 0 ∧ v / p % q = 0) := by
  have e1 := Int.mul_ediv_add_emod v p
  have e2 := Int.mul_ediv_add_emod (v / p) q
  have m0 := Int.emod_nonneg v (Int.ne_of_gt hp)
  have m1 := Int.emod_lt_of_pos v hp
  have m2 := Int.emod_nonneg (v / p) (Int.ne_of_gt hq)
  have m3 := Int.emod_lt_of_pos (v / p) hq
  have e : v = (v / p % q * p + v % p) + p * q * (v / p / q) := by
    have : p * (v / p) = p * q * (v / p / q) + v / p % q * p := by
      conv => lhs; rw [← e2]
      rw [Int.mul_add, Int.mul_assoc, Int.mul_comm p (v / p % q)]
    omega
  have hlt : v / p % q * p + v % p < p * q := by
    have := Int.mul_le_mul_of_nonneg_right (show v / p % q + 1 ≤ q by omega) (Int.le_of_lt hp)
    rw [Int.add_mul, Int.mul_comm q p] at this; omega
  have h0 : 0 ≤ v / p % q * p := Int.mul_nonneg m2 (Int.le_of_lt hp)
  have hm : v % (p * q) = v / p % q * p + v % p := by
    conv => lhs; rw [e]
    rw [Int.add_mul_emod_self_left, Int.emod_eq_of_lt (by omega) hlt]
  rw [hm]
  constructor
  · intro h
    have h1 : v % p = 0 := by omega
    have h2 : v / p % q * p = 0 := by omega
    rcases Int.mul_eq_zero.1 h2 with h3 | h3
    · exact ⟨h1, h3⟩
    · omega
  · rintro ⟨h1, h2⟩; rw [h1, h2]; simp
theorem drop_start (v n a b c : Int) (h1 : Word a) (h2 : Word b) (h3 : Word c) (hv : val3 a b c = v) : DropAt v n 0 a b c false :=
  ⟨h1, h2, h3, by rw [show pw (64 * 0) = 1 from rfl]; omega, by rw [show pw (64 * 0) = 1 from rfl]; simp, .inl rfl⟩
theorem drop_next {v n k a b c : Int} {o : Bool} (hk : 0 ≤ k) (d : DropAt v n k a b c o) (hn : 64 ≤ n - 64 * k) (o' : Bool) (ho : o' = (o || (c != 0))) : DropAt v n (k + 1) 0 a b o' := by
  obtain ⟨h1, h2, h3, h4, h5, h6⟩ := d
  have hp := pw_pos (64 * k)
  have e : v / pw (64 * k) / 18446744073709551616 = val3 0 a b ∧ v / pw (64 * k) % 18446744073709551616 = c := by
    rw [← h4]; unfold val3 Word at *; omega
  refine ⟨⟨by decide, by decide⟩, h1, h2, ?_, ?_, .inr (by omega)⟩
  · rw [pw_step k hk, ← Int.ediv_ediv_of_nonneg (Int.le_of_lt hp), e.1]
  · rw [pw_step k hk, mod_split v _ _ hp (by decide), e.2, ← h5, ho]
    cases o <;> simp

/-- The words of a number of three words that is shifted down by less than a word. -/
theorem drop_words (a b c n : Int) (h1 : Word a) (h2 : Word b) (h3 : Word c) (hn : 0 ≤ n) (hn2 : n ≤ 64) :
    Word (a / pw n) ∧ Word (bits .or .u64 (b / pw n) (IntKind.u64.wrap (a * pw (64 - n)))) ∧ Word (bits .or .u64 (c / pw n) (IntKind.u64.wrap (b * pw (64 - n)))) ∧
    val3 (a / pw n) (bits .or .u64 (b / pw n) (IntKind.u64.wrap (a * pw (64 - n)))) (bits .or .u64 (c / pw n) (IntKind.u64.wrap (b * pw (64 - n)))) = val3 a b c / pw n ∧
    (IntKind.u64.wrap (c * pw (64 - n)) = 0 ↔ val3 a b c % pw n = 0) := by
  obtain ⟨e1, e2⟩ := shr_words a b n h1 h2 hn hn2
  obtain ⟨e3, e4⟩ := shr_words b c n h2 h3 hn hn2
  have b1 := val_bd h1 h2
  have b2 := val_bd h2 h3
  have hp := pw_pos n
  have hq := pw_pos (64 - n)
  have hs := pw_split n hn hn2
  rw [e2, e4]
  generalize hP : pw n = p at *
  generalize hQ : pw (64 - n) = q at *
  have q1 := Int.ediv_nonneg b1.1 (Int.le_of_lt hp)
  have q2 : val a b / p ≤ val a b := Int.ediv_le_self _ b1.1
  have q3 := Int.ediv_nonneg b2.1 (Int.le_of_lt hp)
  have q4 : val b c / p ≤ val b c := Int.ediv_le_self _ b2.1
  -- b = p * B1 + B0
  have eb := Int.mul_ediv_add_emod b p
  have eb0 := Int.emod_nonneg b (Int.ne_of_gt hp)
  have eb1 := Int.emod_lt_of_pos b hp
  have ec := Int.mul_ediv_add_emod c p
  have ec0 := Int.emod_nonneg c (Int.ne_of_gt hp)
  have ec1 := Int.emod_lt_of_pos c hp
  have hcq : c / p < q := Int.ediv_lt_of_lt_mul hp (by rw [Int.mul_comm, hs]; exact h3.2)
  have hcq0 := Int.ediv_nonneg h3.1 (Int.le_of_lt hp)
  have hb0q : b % p * q + c / p < 18446744073709551616 := by
    have := Int.mul_le_mul_of_nonneg_right (show b % p + 1 ≤ p by omega) (Int.le_of_lt hq)
    rw [Int.add_mul, hs] at this; omega
  have hb0q0 : 0 ≤ b % p * q := Int.mul_nonneg eb0 (Int.le_of_lt hq)
  have bq : b * q = (b / p) * 18446744073709551616 + b % p * q := by
    conv => lhs; rw [← eb]
    rw [Int.add_mul, Int.mul_comm p (b / p), Int.mul_assoc, hs]
  have v1 : val a b / p = a * q + b / p := by
    have : val a b = b + p * (a * q) := by
      unfold val; rw [Int.mul_left_comm, hs]; omega
    rw [this, Int.add_mul_ediv_left _ _ (Int.ne_of_gt hp)]; omega
  have v2 : val b c / p = b * q + c / p := by
    have : val b c = c + p * (b * q) := by
      unfold val; rw [Int.mul_left_comm, hs]; omega
    rw [this, Int.add_mul_ediv_left _ _ (Int.ne_of_gt hp)]; omega
  have v3e : val3 a b c = c + p * (a * q * 18446744073709551616 + b * q) := by
    rw [Int.mul_add, Int.mul_left_comm p b q, hs, ← Int.mul_assoc, Int.mul_left_comm p a q, hs]
    unfold val3; omega
  have v3 : val3 a b c / p = a * q * 18446744073709551616 + b * q + c / p := by
    rw [v3e, Int.add_mul_ediv_left _ _ (Int.ne_of_gt hp)]; omega
  have v4 : val3 a b c % p = c % p := by rw [v3e, Int.add_mul_emod_self_left]
  refine ⟨?_, ?_, ?_, ?_, ?_⟩
  · have := Int.ediv_nonneg h1.1 (Int.le_of_lt hp)
    have := Int.ediv_le_self p h1.1
    exact ⟨by omega, by have := h1.2; omega⟩
  · unfold Word; omega
  · unfold Word; omega
  · rw [e1, v3, v1, v2]
    unfold val3
    generalize a * q = x at *
    generalize b % p * q = y at *
    omega
  · rw [v4, IntKind.wrap_u64]
    have cq : c * q = c / p * 18446744073709551616 + c % p * q := by
      conv => lhs; rw [← ec]
      rw [Int.add_mul, Int.mul_comm p (c / p), Int.mul_assoc, hs]
    have k1 : c % p * q < 18446744073709551616 := by
      have := Int.mul_le_mul_of_nonneg_right (show c % p + 1 ≤ p by omega) (Int.le_of_lt hq)
      rw [Int.add_mul, hs] at this; omega
    have k0 : 0 ≤ c % p * q := Int.mul_nonneg ec0 (Int.le_of_lt hq)
    rw [cq, Int.add_comm, Int.add_mul_emod_self_right, Int.emod_eq_of_lt k0 k1, Int.mul_eq_zero]
    constructor
    · rintro (h | h)
      · exact h
      · omega
    · exact fun h => .inl h

/-- The end by a return ahead of the shift. -/
theorem drop_same {v n k a b c : Int} {o : Bool} (hk0 : 0 ≤ k) (hk : k ≤ 3) (hv0 : 0 ≤ v) (hv : v < 6277101735386680763835789423207666416102355444464034512896) (d : DropAt v n k a b c o) (hn : n - 64 * k ≤ 0 ∨ (k = 3 ∧ 64 ≤ n - 64 * k)) (w w' : World) (hb : Below w.heap.size w w') :
    DropPost v (pw n) w (.returned (.tuple #[.agg #[.int .u64 a, .int .u64 b, .int .u64 c], .bool o])) w' := by
  obtain ⟨h1, h2, h3, h4, h5, h6⟩ := d
  rcases hn with hn | ⟨rfl, hn⟩
  · have e : pw n = pw (64 * k) := by
      rcases h6 with rfl | h6
      · rw [pw_nonpos (by omega : n ≤ 0)]; rfl
      · congr 1; omega
    rw [e]
    exact ⟨_, _, _, _, rfl, h1, h2, h3, h4, h5, hb⟩
  · have e : pw (64 * 3) = 6277101735386680763835789423207666416102355444464034512896 := rfl
    rw [e] at h4 h5
    have hle : 6277101735386680763835789423207666416102355444464034512896 ≤ pw n := by
      have := pw_add (64 * 3) (n - 192) (by decide) (by omega)
      rw [show 64 * 3 + (n - 192) = n by omega, e] at this
      have := pw_pos (n - 192)
      omega
    rw [Int.ediv_eq_zero_of_lt hv0 hv] at h4
    rw [Int.emod_eq_of_lt hv0 hv] at h5
    refine ⟨_, _, _, _, rfl, h1, h2, h3, ?_, ?_, hb⟩
    · rw [h4, Int.ediv_eq_zero_of_lt hv0 (by omega)]
    · rw [h5, Int.emod_eq_of_lt hv0 (by omega)]
/-- The end behind the shift. -/
theorem drop_shift {v n k a b c x y z t : Int} {o o' : Bool} (hk0 : 0 ≤ k) (d : DropAt v n k a b c o) (hn : 0 < n - 64 * k) (hn2 : n - 64 * k < 64)
    (hx : a / 2 ^ (n - 64 * k).toNat = x) (hy : bits .or .u64 (b / 2 ^ (n - 64 * k).toNat) (IntKind.u64.wrap (a * 2 ^ (64 - (n - 64 * k)).toNat)) = y)
    (hz : bits .or .u64 (c / 2 ^ (n - 64 * k).toNat) (IntKind.u64.wrap (b * 2 ^ (64 - (n - 64 * k)).toNat)) = z) (ht : IntKind.u64.wrap (c * 2 ^ (64 - (n - 64 * k)).toNat) = t) (ho : o' = (o || (t != 0))) (w w' : World) (hb : Below w.heap.size w w') :
    DropPost v (pw n) w (.returned (.tuple #[.agg #[.int .u64 x, .int .u64 y, .int .u64 z], .bool o'])) w' := by
  obtain ⟨h1, h2, h3, h4, h5, h6⟩ := d
  rw [pw_eq] at hx hy hz
  rw [pw_eq] at hy hz ht
  obtain ⟨a1, a2, a3, a4, a5⟩ := drop_words a b c (n - 64 * k) h1 h2 h3 (by omega) (by omega)
  rw [hx] at a1; rw [hy] at a2; rw [hz] at a3; rw [hx, hy, hz] at a4; rw [ht] at a5
  have e : pw n = pw (64 * k) * pw (n - 64 * k) := by rw [← pw_add _ _ (by omega) (by omega)]; congr 1; omega
  refine ⟨_, _, _, _, rfl, a1, a2, a3, ?_, ?_, hb⟩
  · rw [a4, h4, e, Int.ediv_ediv_of_nonneg (Int.le_of_lt (pw_pos _))]
  · rw [e, mod_split _ _ _ (pw_pos _) (pw_pos _), ← h4, ← a5, ← h5, ho]
    cases o <;> simp

set_option maxHeartbeats 2000000 in
theorem drop_any (h m l n : Int) (h1 : Word h) (h2 : Word m) (h3 : Word l) (hn0 : -9223372036854775808 ≤ n) (hn2 : n ≤ 9223372036854775807) (w : World) :
    Calls Try.prog 32 #[.agg #[.int .u64 h, .int .u64 m, .int .u64 l], .int .i64 n] w (DropPost (val3 h m l) (pw n) w) := by
  have Hv : Hid (0 ≤ val3 h m l ∧ val3 h m l < 6277101735386680763835789423207666416102355444464034512896) := by unfold Hid val3 Word at *; omega
  have H0 := Lib.hid (drop_start (val3 h m l) n h m l h1 h2 h3 rfl)
  clear h1 h2 h3
  go_enter Try.func32, Try.ntmps32
  go_upto_block 0 with fail
  go_cut [1, 6] (fun vn vo wx => ∃ (k a b c N : Int) (o : Bool), 0 ≤ k ∧ k ≤ 3 ∧ vn = .int .i64 N ∧ Hid (N = n - 64 * k) ∧ vo = .bool o ∧ DropAt (val3 h m l) n k a b c o ∧ (N < 64 ∨ k = 3) ∧ wx = (w.alloc (.cells #[.int .u64 a, .int .u64 b, .int .u64 c] 56)).alloc (.cells #[.int .u64 0, .int .u64 0, .int .u64 0] 56))
  case first =>
    go_wp2_with fail
    go_loopw [1, 6, 8] (fun vn vo i wr => ∃ (k : Nat) (a b c N : Int) (o : Bool), k ≤ 3 ∧ i = .int .i64 (k : Int) ∧ vn = .int .i64 N ∧ Hid (N = n - 64 * k) ∧ vo = .bool o ∧ DropAt (val3 h m l) n k a b c o ∧ wr = (w.alloc (.cells #[.int .u64 a, .int .u64 b, .int .u64 c] 56)).alloc (.cells #[.int .u64 0, .int .u64 0, .int .u64 0] 56)) (fun _ _ i _ => 3 - (intOf i).toNat)
    case atStart => exact ⟨0, h, m, l, n, false, by omega, rfl, rfl, by unfold Hid; omega, rfl, H0.out, rfl⟩
    case round =>
      obtain ⟨k, a, b, c, N, o, hk, rfl, rfl, hN, rfl, hd, rfl⟩ := hrel
      have n1 : -9223372036854775808 ≤ N := by
        have := hN.out; rcases hd.le with h | h <;> omega
      have n2 : N ≤ 9223372036854775807 := by have := hN.out; omega
      have Hd := Lib.hid hd; clear hd
      by_cases hlt : k < 3
      · by_cases hn64 : N < 64
        · go_wp2
          go_meet
          exact ⟨k, a, b, c, N, o, by omega, by omega, rfl, hN, rfl, Hd.out, .inl hn64, rfl⟩
        · have Hnext := Lib.hid (fun o' => drop_next (by omega) Hd.out (by have := hN.out; omega) o')
          cases o
          · rcases Bool.eq_false_or_eq_true (c != 0) with hc | hc
            all_goals
              go_wp2
              go_roundw
              case rel => exact ⟨k + 1, 0, a, b, N - 64, _, by omega, by go_num, rfl, by have := hN.out; unfold Hid; omega, rfl, (by simpa using Hnext.out _ (by rw [hc]; rfl)), rfl⟩
              case measure => simp [intOf]; omega
          · go_wp2
            go_roundw
            case rel => exact ⟨k + 1, 0, a, b, N - 64, true, by omega, by go_num, rfl, by have := hN.out; unfold Hid; omega, rfl, (by simpa using Hnext.out true (by simp)), rfl⟩
            case measure => simp [intOf]; omega
      · go_wp2
        go_meet
        exact ⟨k, a, b, c, N, o, by omega, by omega, rfl, hN, rfl, Hd.out, .inr (by omega), rfl⟩
  case rest =>
    obtain ⟨k, a, b, c, N, o, hk0, hk3, rfl, hN, rfl, hd, hor, rfl⟩ := hcut
    by_cases hend : N ≤ 0 ∨ 64 ≤ N
    · have Hf := Lib.hid (drop_same hk0 hk3 Hv.out.1 Hv.out.2 hd (by have := hN.out; omega) w)
      clear hd
      rcases hend with he | he
      all_goals
        go_wp2
        simp [bodyPost, results, Try.results32, go_sem]
        exact Hf.out _ (((Below.refl _ _).alloc (Nat.le_refl _) _).alloc (by simp) _)
    · have e1 : 0 < N := by omega
      have e2 : N < 64 := by omega
      have hN' := hN.out
      obtain ⟨x, hx⟩ : ∃ z, a / 2 ^ N.toNat = z := ⟨_, rfl⟩
      obtain ⟨y, hy⟩ : ∃ z, bits .or .u64 (b / 2 ^ N.toNat) (IntKind.u64.wrap (a * 2 ^ (64 - N).toNat)) = z := ⟨_, rfl⟩
      obtain ⟨z, hz⟩ : ∃ z, bits .or .u64 (c / 2 ^ N.toNat) (IntKind.u64.wrap (b * 2 ^ (64 - N).toNat)) = z := ⟨_, rfl⟩
      obtain ⟨t, ht⟩ : ∃ z, IntKind.u64.wrap (c * 2 ^ (64 - N).toNat) = z := ⟨_, rfl⟩
      have Hf : Hid (∀ o' : Bool, o' = (o || (t != 0)) → ∀ w', Below w.heap.size w w' → DropPost (val3 h m l) (pw n) w (.returned (.tuple #[.agg #[.int .u64 x, .int .u64 y, .int .u64 z], .bool o'])) w') := by
        intro o' ho w' hb
        subst hN'
        exact drop_shift hk0 hd e1 e2 hx hy hz ht ho w w' hb
      have hwa := hd.wa; have hwb := hd.wb; have hwc := hd.wc
      obtain ⟨a1, a2⟩ := hwa; obtain ⟨b1, b2⟩ := hwb; obtain ⟨c1, c2⟩ := hwc
      clear hd hN' hend hor
      go_wp2
      go_region
      go_wp2
      cases o
      · rcases Bool.eq_false_or_eq_true (t != 0) with htt | htt
        all_goals
          go_region
          go_wp2
          simp [bodyPost, results, Try.results32, go_sem]
          exact Hf.out _ (by rw [htt]; rfl) _ (by repeat (first | exact Below.refl _ _ | refine Below.drew ?_ | refine Below.alloc ?_ (by first | (simp; done) | (simp; omega)) _))
      · go_region
        go_wp2
        simp [bodyPost, results, Try.results32, go_sem]
        exact Hf.out _ rfl _ (by repeat (first | exact Below.refl _ _ | refine Below.drew ?_ | refine Below.alloc ?_ (by first | (simp; done) | (simp; omega)) _))
end Go.Proofs.Ytogldkjhcmlneaa
