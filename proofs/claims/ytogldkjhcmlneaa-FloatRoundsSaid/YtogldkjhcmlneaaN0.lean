/-
  Lists of limbs of 32 bits: what number they mean; the top 64 bits of it, limb by limb.
-/
import Derived.Test.YtogldkjhcmlneaaY3
import Derived.Test.YtogldkjhcmlneaaL0
namespace Go.Proofs.Ytogldkjhcmlneaa
open Go.RowKit Go.Shelf

/-- How many bits a list has whose last limb is x. -/
theorem natV_bits {l : List Int} {k : Nat} (hl : ∀ x ∈ l, Limb x) (hk : k < l.length) (_hz : l[k] ≠ 0) {n : Nat} (h1 : l[k] < (2 ^ n : Nat)) (h2 : ((2 ^ n : Nat) : Int) ≤ 2 * l[k]) : Bits (natV (l.take (k + 1))) (32 * k + n) := by
  have b0 := natV_nonneg (limbs_take hl k)
  have b1 := natV_lt (limbs_take hl k)
  rw [List.length_take, Nat.min_eq_left (by omega)] at b1
  have hx := hl l[k] (List.getElem_mem hk)
  rw [natV_take_succ hk]
  have hp := pw_pos (32 * (k : Int))
  have e : pw ((32 * k + n : Nat) : Int) = pw (32 * (k : Int)) * ((2 ^ n : Nat) : Int) := by
    rw [show ((32 * k + n : Nat) : Int) = 32 * (k : Int) + (n : Int) by omega, pw_add _ _ (by omega) (by omega)]; rfl
  generalize l[k] = x at *
  generalize natV (l.take k) = v at *
  generalize pw (32 * (k : Int)) = p at *
  generalize ((2 ^ n : Nat) : Int) = q at *
  refine ⟨Int.add_nonneg b0 (Int.mul_nonneg (Int.le_of_lt hp) hx.1), ?_, fun _ => ?_⟩
  · rw [e]
    have := Int.mul_le_mul_of_nonneg_left (show x + 1 ≤ q by omega) (Int.le_of_lt hp)
    rw [Int.mul_add] at this; omega
  · rw [e]
    have := Int.mul_le_mul_of_nonneg_left h2 (Int.le_of_lt hp)
    rw [Int.mul_left_comm] at this; omega

/-! ### The top bits, limb by limb -/
/-- Of the first i limbs: what lies above 'over' places, and whether anything lies below. -/
structure TopAt (V over : Int) (top : Int) (lost : Bool) : Prop where
  t : top = V / pw over
  l : lost = (V % pw over != 0)
theorem or_nat {a b : Int} {j : Nat} (ha : 0 ≤ a) (ha2 : a < 18446744073709551616) (hb : 0 ≤ b) (hb2 : b < ((2 ^ j : Nat) : Int)) (hb3 : b < 18446744073709551616) (hm : a % ((2 ^ j : Nat) : Int) = 0) : bits .or .u64 b a = b + a := by
  obtain ⟨n, rfl⟩ := Int.eq_ofNat_of_zero_le ha
  obtain ⟨m, rfl⟩ := Int.eq_ofNat_of_zero_le hb
  have e : n % 2 ^ j = 0 := by
    have : ((n % 2 ^ j : Nat) : Int) = 0 := by rw [Int.natCast_emod]; exact hm
    exact_mod_cast this
  rw [u64_or_nat m n (by omega) (by omega), Nat.or_comm, Plain.nat_join j n m e (by exact_mod_cast hb2)]
  push_cast; omega
/-- The limb lies above. -/
theorem top_high {V x over top : Int} {lost : Bool} {k : Nat} (h0 : 0 ≤ V) (h1 : V < pw (32 * (k : Int))) (hx : Limb x) (ho : 0 ≤ over) (hat : 0 ≤ 32 * (k : Int) - over) (hT : TopAt V over top lost)
    (hfit : (V + pw (32 * (k : Int)) * x) / pw over < 18446744073709551616) :
    bits .or .u64 top (IntKind.u64.wrap (x * 2 ^ min (32 * (k : Int) - over).toNat 64)) = (V + pw (32 * (k : Int)) * x) / pw over ∧ TopAt (V + pw (32 * (k : Int)) * x) over ((V + pw (32 * (k : Int)) * x) / pw over) lost := by
  have hp := pw_pos over
  have esp : pw (32 * (k : Int)) = pw (32 * (k : Int) - over) * pw over := by rw [← pw_add _ _ hat ho]; congr 1; omega
  have ev : V + pw (32 * (k : Int)) * x = V + (pw (32 * (k : Int) - over) * x) * pw over := by
    rw [esp, Int.mul_assoc, Int.mul_assoc, Int.mul_comm (pw over)]
  have e1 : (V + pw (32 * (k : Int)) * x) / pw over = V / pw over + pw (32 * (k : Int) - over) * x := by rw [ev, Int.add_mul_ediv_right _ _ (Int.ne_of_gt hp)]
  have e2 : (V + pw (32 * (k : Int)) * x) % pw over = V % pw over := by rw [ev, Int.add_mul_emod_self_right]
  refine ⟨?_, rfl, by rw [e2]; exact hT.l⟩
  rw [e1] at hfit ⊢
  have t0 : 0 ≤ V / pw over := Int.ediv_nonneg h0 (Int.le_of_lt hp)
  have t1 : V / pw over < pw (32 * (k : Int) - over) := Int.ediv_lt_of_lt_mul hp (by rw [esp] at h1; omega)
  have a0 : 0 ≤ pw (32 * (k : Int) - over) * x := Int.mul_nonneg (Int.le_of_lt (pw_pos _)) hx.1
  rw [hT.t]
  clear ev e1 e2 esp h1 hT
  generalize 32 * (k : Int) - over = z at *
  obtain ⟨j, rfl⟩ := Int.eq_ofNat_of_zero_le hat
  rw [Int.toNat_natCast]
  by_cases hx0 : x = 0
  · subst hx0
    rw [Int.zero_mul, Int.mul_zero]
    have : IntKind.u64.wrap 0 = 0 := by decide
    rw [this]
    have := or_nat (a := 0) (b := V / pw over) (j := j) (by decide) (by decide) t0 t1 (by omega) (by simp)
    exact this
  · have hj64 : j < 64 := by
      rcases Nat.lt_or_ge j 64 with c | c
      · exact c
      · have := pow_lt (show (0 : Int) ≤ 64 by decide) (show (64 : Int) ≤ (j : Int) by omega)
        rw [pw_64] at this
        have hx1 := hx.1
        have := Int.mul_le_mul_of_nonneg_left (show 1 ≤ x by omega) (Int.le_of_lt (pw_pos (j : Int)))
        omega
    have ep : (2 : Int) ^ min j 64 = pw (j : Int) := by
      rw [Nat.min_eq_left (by omega)]; exact (Int.natCast_pow 2 j).symm
    rw [ep, Int.mul_comm x, IntKind.wrap_u64, Int.emod_eq_of_lt a0 (by omega)]
    exact or_nat (j := j) a0 (by omega) t0 t1 (by omega) (Int.mul_emod_right _ _)
/-- The limb lies across. -/
theorem top_mid {V x over top : Int} {lost : Bool} {k : Nat} (h0 : 0 ≤ V) (h1 : V < pw (32 * (k : Int))) (hx : Limb x) (hat : 32 * (k : Int) - over < 0) (hat2 : -32 < 32 * (k : Int) - over) (hT : TopAt V over top lost) :
    bits .or .u64 top (x / 2 ^ min (-(32 * (k : Int) - over)).toNat 64) = (V + pw (32 * (k : Int)) * x) / pw over ∧
    TopAt (V + pw (32 * (k : Int)) * x) over ((V + pw (32 * (k : Int)) * x) / pw over) (lost || (IntKind.u32.wrap (x * 2 ^ min (32 + (32 * (k : Int) - over)).toNat 32) != 0)) := by
  have hp := pw_pos over
  have hk := pw_pos (32 * (k : Int))
  obtain ⟨s, hs⟩ : ∃ s : Nat, over - 32 * (k : Int) = (s : Int) := ⟨(over - 32 * (k : Int)).toNat, by omega⟩
  have s0 : 1 ≤ s := by omega
  have s1 : s ≤ 31 := by omega
  have esp : pw over = pw (32 * (k : Int)) * pw (s : Int) := by rw [← pw_add _ _ (by omega) (by omega)]; congr 1; omega
  have hlt : V < pw over := by
    have := pow_lt (show 0 ≤ 32 * (k : Int) by omega) (show 32 * (k : Int) ≤ over by omega); omega
  have t0 : top = 0 := by rw [hT.t]; exact Int.ediv_eq_zero_of_lt h0 hlt
  have hps := pw_pos (s : Int)
  have q1 : (V + pw (32 * (k : Int)) * x) / pw (32 * (k : Int)) = x := by
    rw [Int.add_mul_ediv_left _ _ (Int.ne_of_gt hk), Int.ediv_eq_zero_of_lt h0 h1]; omega
  have e1 : (V + pw (32 * (k : Int)) * x) / pw over = x / pw (s : Int) := by
    rw [esp, ← Int.ediv_ediv_of_nonneg (Int.le_of_lt hk), q1]
  have e2 : (V + pw (32 * (k : Int)) * x) % pw over = V + pw (32 * (k : Int)) * (x % pw (s : Int)) := by
    have a := Int.mul_ediv_add_emod (V + pw (32 * (k : Int)) * x) (pw over)
    have b := Int.mul_ediv_add_emod x (pw (s : Int))
    rw [e1, esp, Int.mul_assoc] at a
    rw [esp]
    have c : pw (32 * (k : Int)) * x = pw (32 * (k : Int)) * (pw (s : Int) * (x / pw (s : Int))) + pw (32 * (k : Int)) * (x % pw (s : Int)) := by rw [← Int.mul_add, b]
    omega
  have ep : (2 : Int) ^ min (-(32 * (k : Int) - over)).toNat 64 = pw (s : Int) := by
    rw [show (-(32 * (k : Int) - over)).toNat = s by omega, Nat.min_eq_left (by omega)]; exact (Int.natCast_pow 2 s).symm
  have x0 := hx.1
  have x1 := hx.2
  have d0 := Int.ediv_nonneg x0 (Int.le_of_lt hps)
  have d1 := Int.ediv_le_self (pw (s : Int)) x0
  refine ⟨?_, rfl, ?_⟩
  · rw [ep, e1, t0]
    have := or_nat (a := x / pw (s : Int)) (b := 0) (j := 0) d0 (by omega) (by decide) (by decide) (by decide) (by simp [Int.emod_one])
    rw [this]; omega
  · rw [e2]
    have hl : lost = (V != 0) := by rw [hT.l, Int.emod_eq_of_lt h0 hlt]
    have r0 := Int.emod_nonneg x (Int.ne_of_gt hps)
    have ew : IntKind.u32.wrap (x * 2 ^ min (32 + (32 * (k : Int) - over)).toNat 32) = pw (32 - (s : Int)) * (x % pw (s : Int)) := by
      rw [show (32 + (32 * (k : Int) - over)).toNat = 32 - s by omega, Nat.min_eq_left (by omega)]
      have e3 : (2 : Int) ^ (32 - s) = pw (32 - (s : Int)) := by
        rw [show 32 - (s : Int) = ((32 - s : Nat) : Int) by omega]; exact (Int.natCast_pow 2 _).symm
      rw [e3]
      show x * pw (32 - (s : Int)) % 4294967296 = _
      have e32 : (4294967296 : Int) = pw (32 - (s : Int)) * pw (s : Int) := by rw [← pw_add _ _ (by omega) (by omega), show 32 - (s : Int) + (s : Int) = 32 by omega]; rfl
      rw [e32, Int.mul_comm x, Int.mul_emod_mul_of_pos _ _ (pw_pos _)]
    rw [ew, hl]
    have hm : pw (32 - (s : Int)) * (x % pw (s : Int)) = 0 ↔ x % pw (s : Int) = 0 := by
      constructor
      · intro h
        rcases Int.mul_eq_zero.1 h with h | h
        · have := pw_pos (32 - (s : Int)); omega
        · exact h
      · intro h; rw [h, Int.mul_zero]
    have hm2 : pw (32 * (k : Int)) * (x % pw (s : Int)) = 0 ↔ x % pw (s : Int) = 0 := by
      constructor
      · intro h
        rcases Int.mul_eq_zero.1 h with h | h
        · omega
        · exact h
      · intro h; rw [h, Int.mul_zero]
    have hm0 := Int.mul_nonneg (Int.le_of_lt hk) r0
    generalize pw (32 - (s : Int)) * (x % pw (s : Int)) = A at *
    generalize pw (32 * (k : Int)) * (x % pw (s : Int)) = C at *
    by_cases c1 : V = 0 <;> by_cases c2 : x % pw (s : Int) = 0
    · rw [hm.2 c2, hm2.2 c2, c1]; rfl
    · have a1 : A ≠ 0 := fun e => c2 (hm.1 e)
      have a2 : C ≠ 0 := fun e => c2 (hm2.1 e)
      have a3 : V + C ≠ 0 := by omega
      rw [bne_iff_ne.2 a1, bne_iff_ne.2 a3, Bool.or_true]
    · have a3 : V + C ≠ 0 := by omega
      rw [bne_iff_ne.2 c1, bne_iff_ne.2 a3, Bool.true_or]
    · have a3 : V + C ≠ 0 := by omega
      rw [bne_iff_ne.2 c1, bne_iff_ne.2 a3, Bool.true_or]
/-- The limb lies below. -/
theorem top_low {V x over top : Int} {lost : Bool} {k : Nat} (h0 : 0 ≤ V) (h1 : V < pw (32 * (k : Int))) (hx : Limb x) (hat : 32 * (k : Int) - over ≤ -32) (hT : TopAt V over top lost) :
    TopAt (V + pw (32 * (k : Int)) * x) over top (lost || (x != 0)) := by
  have hk := pw_pos (32 * (k : Int))
  have x0 := hx.1
  have x1 := hx.2
  have c0 := Int.mul_nonneg (Int.le_of_lt hk) x0
  have hlt : V < pw over := by
    have := pow_lt (show 0 ≤ 32 * (k : Int) by omega) (show 32 * (k : Int) ≤ over by omega); omega
  have hlt2 : V + pw (32 * (k : Int)) * x < pw over := by
    have a := Int.mul_le_mul_of_nonneg_left (show x ≤ 4294967295 by omega) (Int.le_of_lt hk)
    have b := pow_lt (show 0 ≤ 32 * ((k + 1 : Nat) : Int) by omega) (show 32 * ((k + 1 : Nat) : Int) ≤ over by omega)
    rw [pw32] at b
    omega
  refine ⟨?_, ?_⟩
  · rw [hT.t, Int.ediv_eq_zero_of_lt h0 hlt, Int.ediv_eq_zero_of_lt (by omega) hlt2]
  · rw [hT.l, Int.emod_eq_of_lt h0 hlt, Int.emod_eq_of_lt (by omega) hlt2]
    have hm2 : pw (32 * (k : Int)) * x = 0 ↔ x = 0 := by
      constructor
      · intro h
        rcases Int.mul_eq_zero.1 h with h | h
        · omega
        · exact h
      · intro h; rw [h, Int.mul_zero]
    generalize pw (32 * (k : Int)) * x = C at *
    by_cases c1 : V = 0 <;> by_cases c2 : x = 0
    · rw [hm2.2 c2, c1, c2]; rfl
    · have a2 : C ≠ 0 := fun e => c2 (hm2.1 e)
      have a3 : V + C ≠ 0 := by omega
      rw [bne_iff_ne.2 c2, bne_iff_ne.2 a3, Bool.or_true]
    · have a3 : V + C ≠ 0 := by omega
      rw [bne_iff_ne.2 c1, bne_iff_ne.2 a3, Bool.true_or]
    · have a3 : V + C ≠ 0 := by omega
      rw [bne_iff_ne.2 c1, bne_iff_ne.2 a3, Bool.true_or]
end Go.Proofs.Ytogldkjhcmlneaa
