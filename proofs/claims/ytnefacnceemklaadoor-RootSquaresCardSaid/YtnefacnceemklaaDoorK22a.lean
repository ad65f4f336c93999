/-
  Squares of numbers of 26 bits, and their roots.
-/
import Derived.Test.YtnefacnceemklaaDoorK21a
namespace Go.Proofs.YtnefacnceemklaaDoor
open Go.RowKit Go.Shelf

theorem norm_facts {q U p : Int} (u0 : -1074 ≤ U) (u1 : U ≤ 971) (q0 : 4503599627370496 ≤ q) (q1 : q < 9007199254740992) (hp : p = q + (U + 1074) * 4503599627370496) :
    Word p ∧ kindI p = 2 ∧ negB p = false ∧ mantI p = q ∧ powI p = U ∧ p < 9218868437227405312 := by
  have ap : absI p = p := by unfold absI; omega
  have e1 : expI p = U + 1075 := by unfold expI; omega
  have e2 : fracI p = q - 4503599627370496 := by unfold fracI; omega
  refine ⟨⟨by omega, by omega⟩, ?_, ?_, ?_, ?_, by omega⟩
  · unfold kindI; rw [ap, if_neg (by omega), if_neg (by omega), if_pos (by omega)]
  · unfold negB; exact decide_eq_false (by omega)
  · unfold mantI; rw [e1, e2, if_neg (by omega), if_neg (by omega)]; omega
  · unfold powI; rw [e1, if_neg (by omega), if_neg (by omega)]; omega
/-- The number of m of n bits, n below 54, times 2^e, no bit lost. -/
theorem rnd_norm {m e : Int} {n : Nat} (hb : Bits m n) (hz : m ≠ 0) (hn : n ≤ 53) (e0 : -1021 ≤ e) (e1 : e ≤ 900) : rndI false m e = m * pw (53 - n) + (e + n - 53 + 1074) * 4503599627370496 ∧ 4503599627370496 ≤ m * pw (53 - n) ∧ m * pw (53 - n) < 9007199254740992 := by
  have hb2 := blen_bits hb.v0
  have en : blen m = n := by
    have a := bits_mono hb hb2 (Int.le_refl _) hz
    have b := bits_mono hb2 hb (Int.le_refl _) hz
    omega
  have h2 := hb.ge hz
  have h3 := hb.lt
  refine ⟨?_, ?_, ?_⟩
  · unfold rndI joinV
    rw [en, if_neg (by omega), if_neg (by omega), show placeI e (n : Int) = e + n - 53 by unfold placeI; omega, show signI false = 0 from rfl, Int.zero_add]
    unfold packV
    rw [if_pos (by omega), show -(e + (n : Int) - 53 - e) = 53 - (n : Int) by omega]
  · have a := Int.mul_le_mul_of_nonneg_right h2 (Int.le_of_lt (pw_pos (53 - n)))
    rw [← pw_add _ _ (by omega) (by omega), show (n : Int) + (53 - n) = 53 by omega, show pw 53 = 9007199254740992 from rfl, Int.mul_assoc] at a
    omega
  · have a := Int.mul_lt_mul_of_pos_right h3 (pw_pos (53 - n))
    rw [← pw_add _ _ (by omega) (by omega), show (n : Int) + (53 - n) = 53 by omega, show pw 53 = 9007199254740992 from rfl] at a
    omega
theorem bits_of {m : Int} {n : Nat} (h0 : pw ((n : Int) - 1) ≤ m) (h1 : m < pw n) (hn : 1 ≤ n) : Bits m n := by
  have p := pw_pos ((n : Int) - 1)
  refine ⟨by omega, h1, fun _ => ?_⟩
  have e : pw (n : Int) = pw ((n : Int) - 1) * 2 := by rw [show (2 : Int) = pw 1 from rfl, ← pw_add _ _ (by omega) (by decide)]; congr 1; omega
  omega
/-- A square of a number of 26 bits: itself, its root, its quotient. -/
theorem square_main {c k x : Int} (c0 : 33554432 ≤ c) (c1 : c < 67108864) (k0 : -400 ≤ k) (k1 : k ≤ 400) (hx : x = c * 134217728 + (k - 52 + 1074) * 4503599627370496) :
    ∃ y, mulV x x = y ∧ Word x ∧ Word y ∧ sqrtV y = x ∧ divV y x = x ∧ (c = 33554432 → y = (2 * k + 1023) * 4503599627370496) := by
  obtain ⟨wx, kx, nx, mx, px, lx⟩ := norm_facts (q := c * 134217728) (U := k - 52) (p := x) (by omega) (by omega) (by omega) (by omega) hx
  obtain ⟨s, hs⟩ : ∃ s, c * c = s := ⟨_, rfl⟩
  have s0 : 1125899906842624 ≤ s := by rw [← hs]; exact Int.mul_le_mul c0 c0 (by decide) (by omega)
  have s1 : s ≤ 4503599493152769 := by
    rw [← hs]; exact Int.mul_le_mul (show c ≤ 67108863 by omega) (show c ≤ 67108863 by omega) (by omega) (by decide)
  obtain ⟨n, hn, hb⟩ : ∃ n : Nat, (n = 51 ∨ n = 52) ∧ Bits s n := by
    by_cases h : s < 2251799813685248
    · exact ⟨51, .inl rfl, bits_of (by show 1125899906842624 ≤ s; omega) h (by decide)⟩
    · exact ⟨52, .inr rfl, bits_of (by show 2251799813685248 ≤ s; omega) (by show s < 4503599627370496; omega) (by decide)⟩
  have sz : s ≠ 0 := by omega
  obtain ⟨r1, r2, r3⟩ := rnd_norm (e := 2 * k - 50) hb sz (by omega) (by omega) (by omega)
  have mv : mulV x x = rndI false s (2 * k - 50) := by
    unfold mulV mulK
    rw [kx, nx, mx, px, if_neg (by decide), if_neg (by decide), if_neg (by decide)]
    rw [show c * 134217728 * (c * 134217728) = s * pw 54 by rw [← hs, show pw 54 = 134217728 * 134217728 from rfl, Int.mul_assoc, Int.mul_left_comm 134217728 c, ← Int.mul_assoc]]
    rw [show (false != false) = false from rfl, rnd_scale _ _ (by omega) (by decide)]; congr 1; omega
  obtain ⟨q, hq⟩ : ∃ q, s * pw (53 - n) = q := ⟨_, rfl⟩
  rw [hq] at r1 r2 r3
  obtain ⟨y, hy⟩ : ∃ y, mulV x x = y := ⟨_, rfl⟩
  have ey : y = q + (2 * k - 50 + n - 53 + 1074) * 4503599627370496 := by rw [← hy, mv]; exact r1
  obtain ⟨wy, ky, ny, my, py, ly⟩ := norm_facts (q := q) (U := 2 * k - 50 + n - 53) (p := y) (by omega) (by omega) r2 r3 ey
  have xr : rndI false c (k - 25) = x := by
    have e := rnd_parts wx (fin_of_kind wx (by omega))
    rw [nx, mx, px, show c * 134217728 = c * pw 27 from rfl, rnd_scale _ _ (by omega) (by decide)] at e
    rw [← e]; congr 1; omega
  refine ⟨y, hy, wx, wy, ?_, ?_, ?_⟩
  · unfold sqrtV
    rw [ky, if_neg (by decide), if_neg (by rintro (g | g); exact absurd g (by decide); omega), if_neg (by omega)]
    unfold sqF
    obtain ⟨K, hK⟩ : ∃ K, sqK y = K := ⟨_, rfl⟩
    have KK : (K = 128 ∨ K = 129) ∧ (powI y - K) % 2 = 0 := by
      rw [← hK]; unfold sqK
      split <;> omega
    rw [hK, my, py] at *
    obtain ⟨h, hh⟩ : ∃ h, (2 * k - 50 + n - 53 - K) = 2 * h := ⟨(2 * k - 50 + n - 53 - K) / 2, by omega⟩
    have N1 : q * pw K = (c * pw (k - 25 - h)) * (c * pw (k - 25 - h)) := by
      have e : pw (k - 25 - h) * pw (k - 25 - h) = pw (53 - n) * pw K := by rw [← pw_add _ _ (by omega) (by omega), ← pw_add _ _ (by omega) (by omega)]; congr 1; omega
      rw [← hq, ← hs]
      generalize pw (k - 25 - h) = A at *
      rw [Int.mul_assoc (c * c), ← e, Int.mul_assoc c A, Int.mul_left_comm A c A, ← Int.mul_assoc c c, ← Int.mul_assoc]
    have r0 : 0 ≤ c * pw (k - 25 - h) := Int.mul_nonneg (by omega) (Int.le_of_lt (pw_pos _))
    obtain ⟨r, hr⟩ : ∃ r, c * pw (k - 25 - h) = r := ⟨_, rfl⟩
    rw [hr] at N1 r0
    have lt : q * pw K < pw 256 := by
      have a := Int.mul_lt_mul_of_pos_right r3 (pw_pos K)
      have b := pow_lt (a := K) (b := 129) (by omega) (by omega)
      have e : pw 256 = 9007199254740992 * pw 203 := by rw [show (9007199254740992 : Int) = pw 53 from rfl, ← pw_add _ _ (by decide) (by decide)]; rfl
      have d := pow_lt (a := K) (b := 203) (by omega) (by omega)
      omega
    have n0 : 0 ≤ q * pw K := Int.mul_nonneg (by omega) (Int.le_of_lt (pw_pos _))
    have ir : IsRoot r (q * pw K) := by
      refine ⟨r0, Int.le_of_eq N1.symm, ?_⟩
      rw [N1, Int.add_mul, Int.mul_add]; omega
    rw [isRoot_unique (sqR_root n0 lt) ir]
    unfold rootV
    rw [N1, show (r * r != r * r) = false by simp, hh, Int.mul_ediv_cancel_left _ (by decide)]
    show rndI false r h = x
    rw [← hr, rnd_scale _ _ (by omega) (by omega), show h + (k - 25 - h) = k - 25 by omega]
    exact xr
  · unfold divV divK
    rw [ky, kx, ny, nx, my, mx, py, px, if_neg (by decide), if_neg (by decide), if_neg (by decide), show (false != false) = false from rfl]
    unfold quoV
    have e : q * pw 128 = c * pw (154 - n) * (c * 134217728) := by
      have e : pw (53 - n) * pw 128 = pw (154 - n) * pw 27 := by rw [← pw_add _ _ (by omega) (by decide), ← pw_add _ _ (by omega) (by decide)]; congr 1; omega
      rw [← hq, ← hs, show (134217728 : Int) = pw 27 from rfl, Int.mul_assoc (c * c), e]
      generalize pw (154 - n) = A
      rw [Int.mul_assoc c A, Int.mul_left_comm A c, ← Int.mul_assoc c c]
    have cz : c * 134217728 ≠ 0 := by omega
    rw [e, Int.mul_ediv_cancel _ cz, Int.mul_emod_left, show ((0 : Int) != 0) = false from rfl]
    show rndI false (c * pw (154 - n)) (2 * k - 50 + n - 53 - (k - 52) - 128) = x
    rw [rnd_scale _ _ (by omega) (by omega), show 2 * k - 50 + (n : Int) - 53 - (k - 52) - 128 + (154 - n) = k - 25 by omega]
    exact xr
  · intro hc
    have e : s = 1125899906842624 := by rw [← hs, hc]; rfl
    have n51 : n = 51 := by
      rcases hn with h | h
      · exact h
      · have := hb.ge sz
        rw [h, e] at this
        exact absurd this (by decide)
    rw [ey, ← hq, e, n51, show (1125899906842624 : Int) * pw (53 - (51 : Nat)) = 4503599627370496 from rfl]; omega
/-- 2^i. -/
theorem two_facts {i : Int} (h0 : -1000 ≤ i) (h1 : i ≤ 1000) : Word ((i + 1023) * 4503599627370496) ∧ kindI ((i + 1023) * 4503599627370496) = 2 ∧ negB ((i + 1023) * 4503599627370496) = false ∧ mantI ((i + 1023) * 4503599627370496) = 4503599627370496 ∧ powI ((i + 1023) * 4503599627370496) = i - 52 := by
  obtain ⟨a, b, c, d, e, _⟩ := norm_facts (q := 4503599627370496) (U := i - 52) (p := (i + 1023) * 4503599627370496) (by omega) (by omega) (by decide) (by decide) (by omega)
  exact ⟨a, b, c, d, e⟩
theorem two_mul {i j : Int} (h0 : -1000 ≤ i) (h1 : i ≤ 1000) (g0 : -1000 ≤ j) (g1 : j ≤ 1000) (s0 : -900 ≤ i + j) (s1 : i + j ≤ 900) : mulV ((i + 1023) * 4503599627370496) ((j + 1023) * 4503599627370496) = (i + j + 1023) * 4503599627370496 := by
  obtain ⟨_, b, c, d, e⟩ := two_facts h0 h1
  obtain ⟨_, b', c', d', e'⟩ := two_facts g0 g1
  unfold mulV mulK
  rw [b, b', c, c', d, d', e, e', if_neg (by decide), if_neg (by decide), if_neg (by decide), show (false != false) = false from rfl, show (4503599627370496 : Int) * 4503599627370496 = 1 * pw 104 from rfl, rnd_scale _ _ (by decide) (by decide)]
  have hb : Bits 1 1 := bits_of (by decide) (by decide) (by decide)
  obtain ⟨r, _, _⟩ := rnd_norm (e := i - 52 + (j - 52) + 104) hb (by decide) (by decide) (by omega) (by omega)
  rw [r, show (1 : Int) * pw (53 - (1 : Nat)) = 4503599627370496 from rfl]; omega
theorem two_pow : ∀ (k q : Nat), q < 2 ^ k → q ≤ 900 → powU 4611686018427387904 k q = ((q : Int) + 1023) * 4503599627370496
  | 0, q, h, _ => by
    obtain rfl : q = 0 := by simpa using h
    rfl
  | k + 1, q, h, hq => by
    have ih := two_pow k (q / 2) (by rw [Nat.pow_succ] at h; omega) (by omega)
    show pstep 4611686018427387904 (powU 4611686018427387904 k (q / 2)) (q % 2 == 1) = _
    rw [ih]
    unfold pstep
    have m1 := two_mul (i := ((q / 2 : Nat) : Int)) (j := ((q / 2 : Nat) : Int)) (by omega) (by omega) (by omega) (by omega) (by omega) (by omega)
    rw [m1]
    by_cases o : q % 2 = 1
    · rw [if_pos (by simpa using o)]
      have m2 := two_mul (i := ((q / 2 : Nat) : Int) + ((q / 2 : Nat) : Int)) (j := 1) (by omega) (by omega) (by decide) (by decide) (by omega) (by omega)
      rw [show ((1 : Int) + 1023) * 4503599627370496 = 4611686018427387904 by decide] at m2
      rw [m2]; omega
    · rw [if_neg (by simpa using o)]; omega
theorem two_power {n : Int} (h0 : -900 ≤ n) (h1 : n ≤ 900) : powerV 4611686018427387904 n = (n + 1023) * 4503599627370496 := by
  have k4 : kindI 4611686018427387904 = 2 := by decide
  have up : ∀ m : Nat, m ≤ 900 → powU 4611686018427387904 64 m = ((m : Int) + 1023) * 4503599627370496 := fun m hm => by
    have a := powU_any 4611686018427387904 (k := 10) (q := m) (by show m < 1024; omega) 54
    rw [show (64 : Nat) = 10 + 54 from rfl, a]
    exact two_pow 10 m (by show m < 1024; omega) hm
  unfold powerV
  rw [k4, if_neg (by decide)]
  by_cases c : n < 0
  · rw [if_pos c, up _ (by omega)]
    obtain ⟨m, hm⟩ : ∃ m : Int, ((-n).toNat : Int) = m := ⟨_, rfl⟩
    rw [hm]
    obtain ⟨_, b, cc, d, e⟩ := two_facts (i := m) (by omega) (by omega)
    unfold divV divK
    rw [b, cc, d, e, show kindI 4607182418800017408 = 2 by decide, show negB 4607182418800017408 = false by decide, show mantI 4607182418800017408 = 4503599627370496 by decide, show powI 4607182418800017408 = -52 by decide, if_neg (by decide), if_neg (by decide), if_neg (by decide), show (false != false) = false from rfl]
    unfold quoV
    rw [Int.mul_ediv_cancel_left _ (by decide), Int.mul_emod_right, show ((0 : Int) != 0) = false from rfl]
    show rndI false (pw 128) (-52 - (m - 52) - 128) = _
    rw [show pw 128 = 1 * pw 128 by omega, rnd_scale _ _ (by decide) (by decide)]
    have hb : Bits 1 1 := bits_of (by decide) (by decide) (by decide)
    obtain ⟨r, _, _⟩ := rnd_norm (e := -52 - (m - 52) - 128 + 128) hb (by decide) (by decide) (by omega) (by omega)
    rw [r, show (1 : Int) * pw (53 - (1 : Nat)) = 4503599627370496 from rfl]; omega
  · rw [if_neg c, up _ (by omega)]; omega
end Go.Proofs.YtnefacnceemklaaDoor
