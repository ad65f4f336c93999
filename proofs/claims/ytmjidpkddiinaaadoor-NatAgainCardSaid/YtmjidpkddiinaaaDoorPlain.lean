/-
  The plain arithmetic of numbers of two and three words of 64 bits: no Go in sight. (Used for the statements WideBack and WideRoots.)
-/
import Derived.KernelRfl
namespace Go.Proofs.YtmjidpkddiinaaaDoor.Plain
theorem nat_join (i x y : Nat) (hx : x % 2 ^ i = 0) (hy : y < 2 ^ i) : x ||| y = x + y := by
  have := Nat.two_pow_add_eq_or_of_lt hy (x / 2 ^ i)
  have e : 2 ^ i * (x / 2 ^ i) = x := by rw [Nat.mul_comm]; exact Nat.div_mul_cancel (Nat.dvd_of_mod_eq_zero hx)
  rw [e] at this; exact this.symm
theorem or_comm' (x y : Nat) : x ||| y = y ||| x := Nat.or_comm x y
abbrev B : Nat := 18446744073709551616
theorem pow_split (n : Nat) (h : n ≤ 64) : 2 ^ n * 2 ^ (64 - n) = B := by
  rw [← Nat.pow_add, show n + (64 - n) = 64 from by omega]
/-- The two words of a number shifted up by n < 64. -/
theorem shl_parts (p q h l : Nat) (hp : 0 < p) (hq : 0 < q) (hpq : p * q = B) (_hh : h < B) (hl : l < B) :
    (h * p) % B + l / q = ((h * B + l) * p % (B * B)) / B ∧ l * p % B = ((h * B + l) * p % (B * B)) % B ∧ (h * p) % B % p = 0 ∧ l / q < p := by
  have e1 : l * p = (l / q) * B + l * p % B := by
    have : l * p / B = l / q := by
      rw [← hpq, Nat.mul_comm p q]; exact Nat.mul_div_mul_right _ _ hp
    have := Nat.div_add_mod (l * p) B
    rw [‹l * p / B = l / q›] at this; rw [Nat.mul_comm B] at this; omega
  have hlq : l / q < p := by
    rw [Nat.div_lt_iff_lt_mul hq, hpq]; exact hl
  have hmod : (h * p) % B % p = 0 := by
    rw [← hpq, Nat.mod_mul_right_mod]; exact Nat.mul_mod_left _ _
  have hle : (h * p) % B + p ≤ B := by
    have hlt : (h * p) % B < B := Nat.mod_lt _ (by decide)
    obtain ⟨c, hc⟩ := Nat.dvd_of_mod_eq_zero hmod
    rw [hc] at hlt ⊢
    have hcq : c < q := by
      rcases Nat.lt_or_ge c q with h | h
      · exact h
      · have := Nat.mul_le_mul_left p h; omega
    have := Nat.mul_le_mul_left p (Nat.succ_le_of_lt hcq)
    rw [Nat.mul_succ] at this; omega
  have e2 : (h * B + l) * p = (h * p + l / q) * B + l * p % B := by
    rw [Nat.add_mul, Nat.add_mul]
    have : h * B * p = h * p * B := by rw [Nat.mul_assoc, Nat.mul_comm B p, ← Nat.mul_assoc]
    omega
  have hlo : l * p % B < B := Nat.mod_lt _ (by decide)
  have e3 : (h * p + l / q) % B = (h * p) % B + l / q := by
    rw [Nat.add_mod, Nat.mod_eq_of_lt (a := l / q) (by omega), Nat.mod_eq_of_lt]; omega
  have e4 : (h * B + l) * p % (B * B) = ((h * p) % B + l / q) * B + l * p % B := by
    rw [e2]
    generalize h * p + l / q = X at *
    have hlo2 := hlo
    generalize l * p % B = Y at *
    rw [← e3]
    clear e3 e2 e1 hle hpq
    unfold B at *
    omega
  refine ⟨?_, ?_, hmod, hlq⟩
  · rw [e4]
    have h1 : (h * p) % B < B := Nat.mod_lt _ (by decide)
    generalize (h * p) % B + l / q = X at *
    generalize l * p % B = Y at *
    clear e4 e2 e1 hpq
    unfold B at *
    omega
  · rw [e4]
    generalize (h * p) % B + l / q = X at *
    generalize l * p % B = Y at *
    clear e4 e2 e1 hpq
    unfold B at *
    omega
theorem shr_parts (p q h l : Nat) (hp : 0 < p) (hq : 0 < q) (hpq : p * q = B) (_hh : h < B) (hl : l < B) :
    h / p = ((h * B + l) / p) / B ∧ (h * q) % B + l / p = ((h * B + l) / p) % B ∧ (h * q) % B % q = 0 ∧ l / p < q := by
  have e1 : (h * B + l) / p = h * q + l / p := by
    have : h * B + l = l + p * (h * q) := by rw [← hpq, ← Nat.mul_assoc, Nat.mul_comm h p, Nat.mul_assoc]; omega
    rw [this, Nat.add_mul_div_left _ _ hp]; omega
  have hlp : l / p < q := by
    rw [Nat.div_lt_iff_lt_mul hp, Nat.mul_comm, hpq]; exact hl
  have hmod : (h * q) % B % q = 0 := by
    rw [← hpq, Nat.mod_mul_left_mod]; exact Nat.mul_mod_left _ _
  have hle : (h * q) % B + q ≤ B := by
    have hlt : (h * q) % B < B := Nat.mod_lt _ (by decide)
    obtain ⟨c, hc⟩ := Nat.dvd_of_mod_eq_zero hmod
    rw [hc] at hlt ⊢
    have hcq : c < p := by
      rcases Nat.lt_or_ge c p with h | h
      · exact h
      · have := Nat.mul_le_mul_left q h; rw [Nat.mul_comm q p] at this; omega
    have := Nat.mul_le_mul_left q (Nat.succ_le_of_lt hcq)
    rw [Nat.mul_succ, Nat.mul_comm q p] at this; omega
  have e3 : (h * q + l / p) % B = (h * q) % B + l / p := by
    rw [Nat.add_mod, Nat.mod_eq_of_lt (a := l / p) (by omega), Nat.mod_eq_of_lt]; omega
  have e5 : h / p = h * q / B := by rw [← hpq]; exact (Nat.mul_div_mul_right _ _ hq).symm
  refine ⟨?_, ?_, hmod, hlp⟩
  · rw [e1, e5]
    generalize h * q = X at *
    generalize l / p = Y at *
    clear e1 e5 hpq e3
    unfold B at *
    omega
  · rw [e1, e3]

theorem word_mk (X Y : Nat) (hY : Y < B) : (X * B + Y) / B = X ∧ (X * B + Y) % B = Y := by unfold B at *; omega
theorem times_parts (h l b : Nat) (hh : h < B) (hl : l < B) (hb : b < B) :
    (h * b / B + (l * b / B + h * b % B) / B) % B = (h * B + l) * b / (B * B) ∧ (l * b / B + h * b % B) % B = (h * B + l) * b / B % B ∧ l * b % B = (h * B + l) * b % B := by
  have e : (h * B + l) * b = (h * b) * B + l * b := by rw [Nat.add_mul]; congr 1; rw [Nat.mul_assoc, Nat.mul_comm B b, ← Nat.mul_assoc]
  have k1 : h * b ≤ (B - 1) * (B - 1) := Nat.mul_le_mul (by omega) (by omega)
  have k2 : l * b ≤ (B - 1) * (B - 1) := Nat.mul_le_mul (by omega) (by omega)
  rw [e]
  generalize h * b = X at *
  generalize l * b = Y at *
  clear e
  unfold B at *
  omega
theorem back_times (p V : Nat) (hp : 0 < p) : V * p / p = V ∧ V * p % p = 0 := ⟨Nat.mul_div_cancel _ hp, Nat.mul_mod_left _ _⟩
/-- Was anything lost by a shift down? -/
theorem lost_iff (V p : Nat) (hV : V < B * B) : (V / p * p % (B * B) = V) ↔ V % p = 0 := by
  have h := Nat.div_add_mod V p
  rw [Nat.mul_comm] at h
  rw [Nat.mod_eq_of_lt (by omega)]
  omega

/-! Knuth's step: two digits of 32 bits by one. -/
abbrev H : Nat := 4294967296
/-- What holds of a guess q with its rest r: q * y1 + r = u; the quotient of u * H + u1 by y1 * H + y0 is at most q. -/
theorem guess_le (u u1 y1 y0 q r : Nat) (hi : q * y1 + r = u) (hc : q * y0 ≤ H * r + u1) : q * (y1 * H + y0) ≤ u * H + u1 := by
  have e : q * (y1 * H + y0) = (q * y1) * H + q * y0 := by rw [Nat.mul_add, Nat.mul_assoc]
  have e2 : u * H = (q * y1) * H + r * H := by rw [← hi, Nat.add_mul]
  rw [e, e2]; unfold H at *; omega
theorem guess_gt (u u1 y1 y0 q r : Nat) (hi : q * y1 + r = u) (hc : H * r + u1 < q * y0) : u * H + u1 < q * (y1 * H + y0) := by
  have e : q * (y1 * H + y0) = (q * y1) * H + q * y0 := by rw [Nat.mul_add, Nat.mul_assoc]
  have e2 : u * H = (q * y1) * H + r * H := by rw [← hi, Nat.add_mul]
  rw [e, e2]; unfold H at *; omega
theorem quo_lt (u u1 y : Nat) (hu : u < y) (h1 : u1 < H) : (u * H + u1) / y < H := by
  rw [Nat.div_lt_iff_lt_mul (by omega)]
  have := Nat.mul_le_mul_right H (Nat.succ_le_of_lt hu)
  rw [Nat.succ_mul, Nat.mul_comm y] at this; omega
/-- The guess at the start. -/
theorem guess_start (u u1 y1 y0 : Nat) (hy1 : 0 < y1) (h1 : u1 < H) (hu : u < y1 * H + y0) : (u * H + u1) / (y1 * H + y0) ≤ u / y1 := by
  have hy : 0 < y1 * H + y0 := by have := Nat.mul_le_mul_right H hy1; unfold H at *; omega
  rw [Nat.le_div_iff_mul_le hy1]
  have hle := Nat.div_mul_le_self (u * H + u1) (y1 * H + y0)
  generalize (u * H + u1) / (y1 * H + y0) = q at *
  rw [Nat.mul_add, ← Nat.mul_assoc] at hle
  unfold H at *
  omega
theorem guess_top (u y1 y0 : Nat) (hy1 : 2147483648 ≤ y1) (hy0 : y0 < H) (hu : u < y1 * H + y0) : u / y1 ≤ H + 1 := by
  have : u < (H + 2) * y1 := by rw [Nat.add_mul, Nat.mul_comm H]; unfold H at *; omega
  have := (Nat.div_lt_iff_lt_mul (by omega : 0 < y1)).2 this
  omega
/-- The loop's end: the guess is the quotient. -/
theorem guess_end (N y q : Nat) (hy : 0 < y) (h1 : N / y ≤ q) (h2 : q * y ≤ N) : q = N / y :=
  Nat.le_antisymm ((Nat.le_div_iff_mul_le hy).2 h2) h1
theorem guess_step (N y q : Nat) (hy : 0 < y) (h2 : N < q * y) : N / y ≤ q - 1 := by
  have := (Nat.div_lt_iff_lt_mul hy).2 h2; omega
/-- Two steps are one division. -/
theorem two_steps_any (b N u0 y : Nat) (hy : 0 < y) :
    N / y * b + (N % y * b + u0) / y = (N * b + u0) / y ∧ (N % y * b + u0) % y = (N * b + u0) % y := by
  have h := Nat.div_add_mod N y
  have e : N * b + u0 = (N % y * b + u0) + y * (N / y * b) := by
    have : N * b = (y * (N / y)) * b + N % y * b := by rw [← Nat.add_mul, h]
    rw [← Nat.mul_assoc]; omega
  rw [e]
  exact ⟨by rw [Nat.add_mul_div_left _ _ hy]; omega, by rw [Nat.add_mul_mod_self_left]⟩
theorem two_steps (u u1 u0 y : Nat) (hy : 0 < y) :
    (u * H + u1) / y * H + ((u * H + u1) % y * H + u0) / y = ((u * H + u1) * H + u0) / y ∧ ((u * H + u1) % y * H + u0) % y = ((u * H + u1) * H + u0) % y :=
  two_steps_any H _ u0 y hy

end Go.Proofs.YtmjidpkddiinaaaDoor.Plain
