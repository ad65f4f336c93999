import Derived.Test.YtmjidpkddiinaaaDoorX0
import Derived.Test.YtmjidpkddiinaaaDoorX1
import Derived.Deep.DeepCutAuto
import Derived.Deep.CutBlock
import Derived.ProofKit
import Derived.Carry
import Derived.ChangeSlices
/-
  Lists of limbs of 32 bits: what number they mean; the top 64 bits of it, limb by limb.
-/
namespace Go.Proofs.YtmjidpkddiinaaaDoor
open Go.RowKit Go.Shelf

/-- How many bits a list has whose last limb is x. -/
theorem natV_bits {l : List Int} {k : Nat} (hl : ∀ x ∈ l, Limb x) (hk : k < l.length) (_hz : l[k] ≠ 0) {n : Nat} (h1 : l[k] < (2 ^ n : Nat)) (h2 : ((2 ^ n : Nat) : Int) ≤ 2 * l[k]) : Bits (natV (l.take (k + 1))) (32 * k + n) := by
  have b0 := natV_nonneg (limbs_take hl k)
  have b1 := natV_lt (limbs_take hl k)
  rw [List.length_take, Nat.min_eq_left (by omega)] at b1
  have hx := hl l[k] (List.getElem_mem hk)
  rw [natV_take_succ hk]
  have hp := pw_pos (32 * (k : Int))
  have e : pw ((32 * k + n : Nat) : Int) = pw (32 * (k : Int)) * ((2 ^ n : Nat) : Int) := by
    rw [show ((32 * k + n : Nat) : Int) = 32 * (k : Int) + (n : Int) by omega, pw_add _ _ (by omega) (by omega)]; rfl
  generalize l[k] = x at *
  generalize natV (l.take k) = v at *
  generalize pw (32 * (k : Int)) = p at *
  generalize ((2 ^ n : Nat) : Int) = q at *
  refine ⟨Int.add_nonneg b0 (Int.mul_nonneg (Int.le_of_lt hp) hx.1), ?_, fun _ => ?_⟩
  · rw [e]
    have := Int.mul_le_mul_of_nonneg_left (show x + 1 ≤ q by omega) (Int.le_of_lt hp)
    rw [Int.mul_add] at this; omega
  · rw [e]
    have := Int.mul_le_mul_of_nonneg_left h2 (Int.le_of_lt hp)
    rw [Int.mul_left_comm] at this; omega

/-! ### The top bits, limb by limb -/
/-- Of the first i limbs: what lies above 'over' places, and whether anything lies below. -/
structure TopAt (V over : Int) (top : Int) (lost : Bool) : Prop where
  t : top = V / pw over
  l : lost = (V % pw over != 0)
theorem or_nat {a b : Int} {j : Nat} (ha : 0 ≤ a) (ha2 : a < 18446744073709551616) (hb : 0 ≤ b) (hb2 : b < ((2 ^ j : Nat) : Int)) (hb3 : b < 18446744073709551616) (hm : a % ((2 ^ j : Nat) : Int) = 0) : bits .or .u64 b a = b + a := by
  obtain ⟨n, rfl⟩ := Int.eq_ofNat_of_zero_le ha
  obtain ⟨m, rfl⟩ := Int.eq_ofNat_of_zero_le hb
  have e : n % 2 ^ j = 0 := by
    have : ((n % 2 ^ j : Nat) : Int) = 0 := by rw [Int.natCast_emod]; exact hm
    exact_mod_cast this
  rw [u64_or_nat m n (by omega) (by omega), Nat.or_comm, Plain.nat_join j n m e (by exact_mod_cast hb2)]
  push_cast; omega
/-- The limb lies above. -/
theorem top_high {V x over top : Int} {lost : Bool} {k : Nat} (h0 : 0 ≤ V) (h1 : V < pw (32 * (k : Int))) (hx : Limb x) (ho : 0 ≤ over) (hat : 0 ≤ 32 * (k : Int) - over) (hT : TopAt V over top lost)
    (hfit : (V + pw (32 * (k : Int)) * x) / pw over < 18446744073709551616) :
    bits .or .u64 top (IntKind.u64.wrap (x * 2 ^ min (32 * (k : Int) - over).toNat 64)) = (V + pw (32 * (k : Int)) * x) / pw over ∧ TopAt (V + pw (32 * (k : Int)) * x) over ((V + pw (32 * (k : Int)) * x) / pw over) lost := by
  have hp := pw_pos over
  have esp : pw (32 * (k : Int)) = pw (32 * (k : Int) - over) * pw over := by rw [← pw_add _ _ hat ho]; congr 1; omega
  have ev : V + pw (32 * (k : Int)) * x = V + (pw (32 * (k : Int) - over) * x) * pw over := by
    rw [esp, Int.mul_assoc, Int.mul_assoc, Int.mul_comm (pw over)]
  have e1 : (V + pw (32 * (k : Int)) * x) / pw over = V / pw over + pw (32 * (k : Int) - over) * x := by rw [ev, Int.add_mul_ediv_right _ _ (Int.ne_of_gt hp)]
  have e2 : (V + pw (32 * (k : Int)) * x) % pw over = V % pw over := by rw [ev, Int.add_mul_emod_self_right]
  refine ⟨?_, rfl, by rw [e2]; exact hT.l⟩
  rw [e1] at hfit ⊢
  have t0 : 0 ≤ V / pw over := Int.ediv_nonneg h0 (Int.le_of_lt hp)
  have t1 : V / pw over < pw (32 * (k : Int) - over) := Int.ediv_lt_of_lt_mul hp (by rw [esp] at h1; omega)
  have a0 : 0 ≤ pw (32 * (k : Int) - over) * x := Int.mul_nonneg (Int.le_of_lt (pw_pos _)) hx.1
  rw [hT.t]
  clear ev e1 e2 esp h1 hT
  generalize 32 * (k : Int) - over = z at *
  obtain ⟨j, rfl⟩ := Int.eq_ofNat_of_zero_le hat
  rw [Int.toNat_natCast]
  by_cases hx0 : x = 0
  · subst hx0
    rw [Int.zero_mul, Int.mul_zero]
    have : IntKind.u64.wrap 0 = 0 := by decide
    rw [this]
    have := or_nat (a := 0) (b := V / pw over) (j := j) (by decide) (by decide) t0 t1 (by omega) (by simp)
    exact this
  · have hj64 : j < 64 := by
      rcases Nat.lt_or_ge j 64 with c | c
      · exact c
      · have := pow_lt (show (0 : Int) ≤ 64 by decide) (show (64 : Int) ≤ (j : Int) by omega)
        rw [pw_64] at this
        have hx1 := hx.1
        have := Int.mul_le_mul_of_nonneg_left (show 1 ≤ x by omega) (Int.le_of_lt (pw_pos (j : Int)))
        omega
    have ep : (2 : Int) ^ min j 64 = pw (j : Int) := by
      rw [Nat.min_eq_left (by omega)]; exact (Int.natCast_pow 2 j).symm
    rw [ep, Int.mul_comm x, IntKind.wrap_u64, Int.emod_eq_of_lt a0 (by omega)]
    exact or_nat (j := j) a0 (by omega) t0 t1 (by omega) (Int.mul_emod_right _ _)
/-- The limb lies across. -/
theorem top_mid {V x over top : Int} {lost : Bool} {k : Nat} (h0 : 0 ≤ V) (h1 : V < pw (32 * (k : Int))) (hx : Limb x) (hat : 32 * (k : Int) - over < 0) (hat2 : -32 < 32 * (k : Int) - over) (hT : TopAt V over top lost) :
    bits .or .u64 top (x / 2 ^ min (-(32 * (k : Int) - over)).toNat 64) = (V + pw (32 * (k : Int)) * x) / pw over ∧
    TopAt (V + pw (32 * (k : Int)) * x) over ((V + pw (32 * (k : Int)) * x) / pw over) (lost || (IntKind.u32.wrap (x * 2 ^ min (32 + (32 * (k : Int) - over)).toNat 32) != 0)) := by
  have hp := pw_pos over
  have hk := pw_pos (32 * (k : Int))
  obtain ⟨s, hs⟩ : ∃ s : Nat, over - 32 * (k : Int) = (s : Int) := ⟨(over - 32 * (k : Int)).toNat, by omega⟩
  have s0 : 1 ≤ s := by omega
  have s1 : s ≤ 31 := by omega
  have esp : pw over = pw (32 * (k : Int)) * pw (s : Int) := by rw [← pw_add _ _ (by omega) (by omega)]; congr 1; omega
  have hlt : V < pw over := by
    have := pow_lt (show 0 ≤ 32 * (k : Int) by omega) (show 32 * (k : Int) ≤ over by omega); omega
  have t0 : top = 0 := by rw [hT.t]; exact Int.ediv_eq_zero_of_lt h0 hlt
  have hps := pw_pos (s : Int)
  have q1 : (V + pw (32 * (k : Int)) * x) / pw (32 * (k : Int)) = x := by
    rw [Int.add_mul_ediv_left _ _ (Int.ne_of_gt hk), Int.ediv_eq_zero_of_lt h0 h1]; omega
  have e1 : (V + pw (32 * (k : Int)) * x) / pw over = x / pw (s : Int) := by
    rw [esp, ← Int.ediv_ediv_of_nonneg (Int.le_of_lt hk), q1]
  have e2 : (V + pw (32 * (k : Int)) * x) % pw over = V + pw (32 * (k : Int)) * (x % pw (s : Int)) := by
    have a := Int.mul_ediv_add_emod (V + pw (32 * (k : Int)) * x) (pw over)
    have b := Int.mul_ediv_add_emod x (pw (s : Int))
    rw [e1, esp, Int.mul_assoc] at a
    rw [esp]
    have c : pw (32 * (k : Int)) * x = pw (32 * (k : Int)) * (pw (s : Int) * (x / pw (s : Int))) + pw (32 * (k : Int)) * (x % pw (s : Int)) := by rw [← Int.mul_add, b]
    omega
  have ep : (2 : Int) ^ min (-(32 * (k : Int) - over)).toNat 64 = pw (s : Int) := by
    rw [show (-(32 * (k : Int) - over)).toNat = s by omega, Nat.min_eq_left (by omega)]; exact (Int.natCast_pow 2 s).symm
  have x0 := hx.1
  have x1 := hx.2
  have d0 := Int.ediv_nonneg x0 (Int.le_of_lt hps)
  have d1 := Int.ediv_le_self (pw (s : Int)) x0
  refine ⟨?_, rfl, ?_⟩
  · rw [ep, e1, t0]
    have := or_nat (a := x / pw (s : Int)) (b := 0) (j := 0) d0 (by omega) (by decide) (by decide) (by decide) (by simp [Int.emod_one])
    rw [this]; omega
  · rw [e2]
    have hl : lost = (V != 0) := by rw [hT.l, Int.emod_eq_of_lt h0 hlt]
    have r0 := Int.emod_nonneg x (Int.ne_of_gt hps)
    have ew : IntKind.u32.wrap (x * 2 ^ min (32 + (32 * (k : Int) - over)).toNat 32) = pw (32 - (s : Int)) * (x % pw (s : Int)) := by
      rw [show (32 + (32 * (k : Int) - over)).toNat = 32 - s by omega, Nat.min_eq_left (by omega)]
      have e3 : (2 : Int) ^ (32 - s) = pw (32 - (s : Int)) := by
        rw [show 32 - (s : Int) = ((32 - s : Nat) : Int) by omega]; exact (Int.natCast_pow 2 _).symm
      rw [e3]
      show x * pw (32 - (s : Int)) % 4294967296 = _
      have e32 : (4294967296 : Int) = pw (32 - (s : Int)) * pw (s : Int) := by rw [← pw_add _ _ (by omega) (by omega), show 32 - (s : Int) + (s : Int) = 32 by omega]; rfl
      rw [e32, Int.mul_comm x, Int.mul_emod_mul_of_pos _ _ (pw_pos _)]
    rw [ew, hl]
    have hm : pw (32 - (s : Int)) * (x % pw (s : Int)) = 0 ↔ x % pw (s : Int) = 0 := by
      constructor
      · intro h
        rcases Int.mul_eq_zero.1 h with h | h
        · have := pw_pos (32 - (s : Int)); omega
        · exact h
      · intro h; rw [h, Int.mul_zero]
    have hm2 : pw (32 * (k : Int)) * (x % pw (s : Int)) = 0 ↔ x % pw (s : Int) = 0 := by
      constructor
      · intro h
        rcases Int.mul_eq_zero.1 h with h | h
        · omega
        · exact h
      · intro h; rw [h, Int.mul_zero]
    have hm0 := Int.mul_nonneg (Int.le_of_lt hk) r0
    generalize pw (32 - (s : Int)) * (x % pw (s : Int)) = A at *
    generalize pw (32 * (k : Int)) * (x % pw (s : Int)) = C at *
    by_cases c1 : V = 0 <;> by_cases c2 : x % pw (s : Int) = 0
    · rw [hm.2 c2, hm2.2 c2, c1]; rfl
    · have a1 : A ≠ 0 := fun e => c2 (hm.1 e)
      have a2 : C ≠ 0 := fun e => c2 (hm2.1 e)
      have a3 : V + C ≠ 0 := by omega
      rw [bne_iff_ne.2 a1, bne_iff_ne.2 a3, Bool.or_true]
    · have a3 : V + C ≠ 0 := by omega
      rw [bne_iff_ne.2 c1, bne_iff_ne.2 a3, Bool.true_or]
    · have a3 : V + C ≠ 0 := by omega
      rw [bne_iff_ne.2 c1, bne_iff_ne.2 a3, Bool.true_or]
/-- The limb lies below. -/
theorem top_low {V x over top : Int} {lost : Bool} {k : Nat} (h0 : 0 ≤ V) (h1 : V < pw (32 * (k : Int))) (hx : Limb x) (hat : 32 * (k : Int) - over ≤ -32) (hT : TopAt V over top lost) :
    TopAt (V + pw (32 * (k : Int)) * x) over top (lost || (x != 0)) := by
  have hk := pw_pos (32 * (k : Int))
  have x0 := hx.1
  have x1 := hx.2
  have c0 := Int.mul_nonneg (Int.le_of_lt hk) x0
  have hlt : V < pw over := by
    have := pow_lt (show 0 ≤ 32 * (k : Int) by omega) (show 32 * (k : Int) ≤ over by omega); omega
  have hlt2 : V + pw (32 * (k : Int)) * x < pw over := by
    have a := Int.mul_le_mul_of_nonneg_left (show x ≤ 4294967295 by omega) (Int.le_of_lt hk)
    have b := pow_lt (show 0 ≤ 32 * ((k + 1 : Nat) : Int) by omega) (show 32 * ((k + 1 : Nat) : Int) ≤ over by omega)
    rw [pw32] at b
    omega
  refine ⟨?_, ?_⟩
  · rw [hT.t, Int.ediv_eq_zero_of_lt h0 hlt, Int.ediv_eq_zero_of_lt (by omega) hlt2]
  · rw [hT.l, Int.emod_eq_of_lt h0 hlt, Int.emod_eq_of_lt (by omega) hlt2]
    have hm2 : pw (32 * (k : Int)) * x = 0 ↔ x = 0 := by
      constructor
      · intro h
        rcases Int.mul_eq_zero.1 h with h | h
        · omega
        · exact h
      · intro h; rw [h, Int.mul_zero]
    generalize pw (32 * (k : Int)) * x = C at *
    by_cases c1 : V = 0 <;> by_cases c2 : x = 0
    · rw [hm2.2 c2, c1, c2]; rfl
    · have a2 : C ≠ 0 := fun e => c2 (hm2.1 e)
      have a3 : V + C ≠ 0 := by omega
      rw [bne_iff_ne.2 c2, bne_iff_ne.2 a3, Bool.or_true]
    · have a3 : V + C ≠ 0 := by omega
      rw [bne_iff_ne.2 c1, bne_iff_ne.2 a3, Bool.true_or]
    · have a3 : V + C ≠ 0 := by omega
      rw [bne_iff_ne.2 c1, bne_iff_ne.2 a3, Bool.true_or]
end Go.Proofs.YtmjidpkddiinaaaDoor

/-
  The walks of package nat that Round needs: core, Len.
-/
namespace Go.Proofs.YtmjidpkddiinaaaDoor
open Go.RowKit Go.Shelf

/-- A slice's cells are the list. -/
def Cells (w : World) (b o : Nat) (l : List Int) : Prop := b < w.heap.size ∧ ∀ i : Nat, (h : i < l.length) → w.cell? ⟨b, o + i, none⟩ = some (.int .u32 l[i])
theorem Cells.below {w w' : World} {b o : Nat} {l : List Int} (h : Cells w b o l) (hb : Below w.heap.size w w') : Cells w' b o l :=
  ⟨Nat.lt_of_lt_of_le h.1 hb.size, fun i hi => by rw [(bcell hb).1 _ _ h.1]; exact h.2 i hi⟩
/-- k limbs are left when the zeros at the end are gone. -/
structure CoreAt (l : List Int) (k : Nat) : Prop where
  le : k ≤ l.length
  zeros : ∀ i : Nat, k ≤ i → (hi : i < l.length) → l[i] = 0
  last : k = 0 ∨ ∃ j : Nat, ∃ h : j < l.length, k = j + 1 ∧ l[j] ≠ 0

set_option maxHeartbeats 1000000 in
theorem core_any (l : List Int) (b o cap : Nat) (w : World) (hc : Cells w b o l) (hcap : l.length ≤ cap) (hn : (cap : Int) < 9223372036854775807) :
    Calls Tryd.prog 42 #[.slice (some ⟨b, o, none⟩) l.length cap] w fun e w' => ∃ k : Nat, CoreAt l k ∧ e = .returned (.slice (some ⟨b, o, none⟩) k cap) ∧ w = w' := by
  have HC := Lib.hid hc.2
  clear hc
  go_enter Tryd.func42, Tryd.ntmps42
  go_wp2
  go_loopw [3] (fun n wr => ∃ k : Nat, k ≤ l.length ∧ n = .int .i64 (k : Int) ∧ Hid (∀ i : Nat, k ≤ i → (hi : i < l.length) → l[i] = 0) ∧ w = wr) (fun n _ => (intOf n).toNat)
  case atStart => exact ⟨l.length, Nat.le_refl _, rfl, fun i h1 h2 => by omega, rfl⟩
  case round =>
    obtain ⟨k, hk, rfl, hz, rfl⟩ := hrel
    have hkc : (k : Int) ≤ (cap : Int) := by omega
    cases k with
    | zero =>
      have hk0 : (0 : Int) ≤ (cap : Int) := by omega
      have fin : Hid (CoreAt l 0) := ⟨by omega, hz.out, .inl rfl⟩
      clear HC hz hkc hk
      go_wp2
      go_ret
      exact ⟨0, fin.out, rfl, rfl⟩
    | succ j =>
      have hj : j < l.length := by omega
      have cell : w.cell? ⟨b, o + j, none⟩ = some (.int .u32 l[j]) := HC.out j hj
      have jl : (j : Int) < (l.length : Int) := by omega
      have hj0 : (0 : Int) < (j : Int) + 1 := by omega
      have ej : ((j + 1 : Nat) : Int) = (j : Int) + 1 := by omega
      have hkc2 : (j : Int) + 1 ≤ (cap : Int) := by omega
      by_cases hx : l[j] = 0
      · have hz2 : Hid (∀ i : Nat, j ≤ i → (hi : i < l.length) → l[i] = 0) := fun i h1 h2 => by
          rcases Nat.eq_or_lt_of_le h1 with e | e
          · subst e; exact hx
          · exact hz.out i (by omega) h2
        rw [hx] at cell
        clear hx HC hz
        go_wp2
        go_roundw
        case rel => exact ⟨j, by omega, by go_num, hz2, by first | trivial | rfl⟩
        case measure => simp [intOf]
      · have fin : Hid (CoreAt l (j + 1)) := ⟨by omega, hz.out, .inr ⟨j, hj, rfl, hx⟩⟩
        have hxb : (l[j] == 0) = false := by simpa using hx
        generalize l[j] = x at *
        clear HC hz
        go_wp2
        go_ret
        exact ⟨j + 1, fin.out, rfl, rfl⟩

/-- What Join and Round come to, of a number of any size. -/
theorem near_join {neg more lost : Bool} {v e : Int} {n : Nat} (h0 : 0 ≤ v) (h1 : v < (2 ^ n : Nat)) (h2 : v ≠ 0 → ((2 ^ n : Nat) : Int) ≤ 2 * v) (hl : lost = false ↔ v % pw (max ((n : Int) - 64) 0) = 0) :
    nearI neg (v / pw (max ((n : Int) - 64) 0)) (max ((n : Int) - 64) 0) e (Lib.bitLen (v / pw (max ((n : Int) - 64) 0)).toNat : Int) (more || lost) = joinV neg v e n more := by
  by_cases hz : v = 0
  · subst hz
    have : (0 : Int) / pw (max ((n : Int) - 64) 0) = 0 := Int.zero_ediv _
    unfold nearI joinV
    rw [this, if_pos (.inl rfl), if_pos (.inl rfl)]
  have h2 := h2 hz
  have en2 : ((2 ^ n : Nat) : Int) = pw (n : Int) := rfl
  by_cases c : (n : Int) ≤ 64
  · have e0 : max ((n : Int) - 64) 0 = 0 := by omega
    rw [e0] at hl ⊢
    rw [show pw 0 = 1 from rfl] at hl ⊢
    rw [Int.ediv_one]
    have hl2 : lost = false := hl.2 (by omega)
    have hv64 : v < 18446744073709551616 := by
      rw [en2] at h1
      have := pow_lt (show 0 ≤ (n : Int) by omega) c
      rw [pw_64] at this; omega
    obtain ⟨s1, s2, s3⟩ := bitLen_bd v.toNat (by omega)
    have s2 := s2 (by omega)
    have hs : Lib.bitLen v.toNat = n := len_unique (v := v) (by generalize 2 ^ Lib.bitLen v.toNat = z at *; omega) (by generalize 2 ^ Lib.bitLen v.toNat = z at *; omega) h1 h2
    rw [hs, hl2, Bool.or_false]
    unfold nearI joinV
    by_cases c1 : v = 0 ∨ e < -2148 - 0 - (n : Int)
    · have d1 : v = 0 ∨ e < -2148 - (n : Int) := by omega
      rw [if_pos c1, if_pos d1]
    · have d1 : ¬(v = 0 ∨ e < -2148 - (n : Int)) := by omega
      rw [if_neg c1, if_neg d1]
      by_cases c2 : 1024 < e ∨ 1024 < 0 + e + (n : Int)
      · have d2 : 1024 < e ∨ 1024 < e + (n : Int) := by omega
        rw [if_pos c2, if_pos d2]
      · have d2 : ¬(1024 < e ∨ 1024 < e + (n : Int)) := by omega
        rw [if_neg c2, if_neg d2]
        have eL : lastI (e + 0) n = placeI e n := by unfold lastI placeI; congr 1; omega
        rw [eL, Int.add_zero]
        congr 2
        unfold packI packV
        by_cases c3 : placeI e n - e ≤ 0
        · rw [if_pos c3, if_pos c3]
          have c4 : -(placeI e n - e) ≤ 53 - (n : Int) := by unfold placeI; omega
          rw [Nat.min_eq_left (by omega), pw_eq, IntKind.wrap_u64, Int.emod_eq_of_lt (Int.mul_nonneg h0 (Int.le_of_lt (pw_pos _)))]
          rw [en2] at h1
          have a := Int.mul_lt_mul_of_pos_right h1 (pw_pos (-(placeI e n - e)))
          rw [← pw_add _ _ (by omega) (by omega)] at a
          have b := pow_lt (show 0 ≤ (n : Int) + -(placeI e n - e) by omega) (show (n : Int) + -(placeI e n - e) ≤ 64 by omega)
          rw [pw_64] at b
          omega
        · rw [if_neg c3, if_neg c3]
  · have e0 : max ((n : Int) - 64) 0 = (n : Int) - 64 := by omega
    rw [e0] at hl ⊢
    have hq := pw_pos ((n : Int) - 64)
    have esp : pw (n : Int) = pw ((n : Int) - 64) * 18446744073709551616 := by rw [← pw_64, ← pw_add _ _ (by omega) (by omega)]; congr 1; omega
    have t1 : v / pw ((n : Int) - 64) < 18446744073709551616 := Int.ediv_lt_of_lt_mul hq (by rw [en2, esp, Int.mul_comm] at h1; exact h1)
    have t0 : 9223372036854775808 ≤ v / pw ((n : Int) - 64) := by
      rw [Int.le_ediv_iff_mul_le hq, Int.mul_comm]
      rw [en2, esp] at h2; omega
    have hs : (Lib.bitLen (v / pw ((n : Int) - 64)).toNat : Int) = 64 := by
      have := size_of' t0 t1
      exact this
    rw [hs]
    unfold nearI joinV
    by_cases c1 : e < -2148 - (n : Int)
    · have d1 : v / pw ((n : Int) - 64) = 0 ∨ e < -2148 - ((n : Int) - 64) - 64 := by omega
      rw [if_pos d1, if_pos (.inr c1)]
    · have d1 : ¬(v / pw ((n : Int) - 64) = 0 ∨ e < -2148 - ((n : Int) - 64) - 64) := by omega
      have d3 : ¬(v = 0 ∨ e < -2148 - (n : Int)) := by omega
      rw [if_neg d1, if_neg d3]
      by_cases c2 : 1024 < e ∨ 1024 < e + (n : Int)
      · have d2 : 1024 < e ∨ 1024 < (n : Int) - 64 + e + 64 := by omega
        rw [if_pos d2, if_pos c2]
      · have d2 : ¬(1024 < e ∨ 1024 < (n : Int) - 64 + e + 64) := by omega
        rw [if_neg d2, if_neg c2]
        have eL : lastI (e + ((n : Int) - 64)) 64 = placeI e n := by unfold lastI placeI; congr 1; omega
        rw [eL]
        congr 2
        have c3 : 11 ≤ placeI e n - (e + ((n : Int) - 64)) := by unfold placeI; omega
        unfold packI packV
        rw [if_neg (by omega), if_neg (by omega), round_top v ((n : Int) - 64) _ more lost (by omega) (by omega) hl]
        congr 1; omega

set_option maxHeartbeats 1000000 in
theorem natlen_any (l : List Int) (b o cap : Nat) (w : World) (hc : Cells w b o l) (hl : ∀ x ∈ l, Limb x) (hcap : l.length ≤ cap) (hn : (cap : Int) < 1125899906842624) :
    Calls Tryd.prog 19 #[.slice (some ⟨b, o, none⟩) l.length cap] w fun e w' => ∃ n : Nat, Bits (natV l) n ∧ (n : Int) ≤ 32 * (cap : Int) ∧ e = .returned (.int .i64 (n : Int)) ∧ w = w' := by
  have CO := Lib.hid (core_any l b o cap w hc hcap (by omega))
  have HC := Lib.hid hc.2
  have HL := Lib.hid hl
  clear hc hl
  go_enter Tryd.func19, Tryd.ntmps19
  go_wp2_with fail
  refine (CO.out).mono ?_
  rintro en w1 ⟨k, hk, rfl, rfl⟩
  clear CO
  rcases hk.last with rfl | ⟨j, hj, rfl, hx⟩
  · have fin : Hid (Bits (natV l) 0) := by
      have e := natV_core hk.zeros
      rw [List.take_zero] at e
      rw [← e]
      exact ⟨by decide, by decide, fun h => absurd rfl h⟩
    clear hk HC HL
    go_wp2
    go_ret
    exact ⟨0, fin.out, by omega, rfl, rfl⟩
  · have cell := HC.out j hj
    have hxl := HL.out l[j] (List.getElem_mem hj)
    obtain ⟨y, hy⟩ := Int.eq_ofNat_of_zero_le hxl.1
    obtain ⟨s1, s2, s3⟩ := bitLen_bd y (by have := hxl.2; omega)
    have s2 := s2 (by omega)
    have s32 : Lib.bitLen y ≤ 32 := by
      rcases Nat.lt_or_ge 32 (Lib.bitLen y) with c | c
      · have := Nat.pow_le_pow_right (show 0 < 2 by decide) (show 33 ≤ Lib.bitLen y by omega)
        have e33 : (2 : Nat) ^ 33 = 8589934592 := rfl
        have := hxl.2
        omega
      · exact c
    have fin : Hid (Bits (natV l) (32 * j + Lib.bitLen y)) := by
      have e := natV_core hk.zeros
      rw [← e]
      exact natV_bits HL.out hj hx (by rw [hy]; exact_mod_cast s1) (by rw [hy]; exact_mod_cast s2)
    have L : Hid (∀ w, Calls Tryd.prog 43 #[.int .u32 l[j]] w fun e w' => e = .returned (.int .i64 (Lib.bitLen y : Int)) ∧ w = w') := fun w => by
      have := Tryd.bits_Len32 l[j] w hxl.1 (by have := hxl.2; omega)
      rw [hy, Int.toNat_natCast] at this
      rw [hy]
      exact this.mono fun _ _ h => ⟨h.1, h.2.symm⟩
    have jl : (j : Int) < (l.length : Int) := by omega
    have hcap' : (l.length : Int) ≤ (cap : Int) := by omega
    have ej : ((j + 1 : Nat) : Int) = (j : Int) + 1 := by omega
    have jn : ((j : Int) + 1 == 0) = false := by simp; omega
    have s4 : (Lib.bitLen y : Int) ≤ 32 := by omega
    have fin2 : Hid (∀ z : Int, z = 32 * (j : Int) + (Lib.bitLen y : Int) → Ending.returned (Value.int .i64 z) = .returned (.int .i64 ((32 * j + Lib.bitLen y : Nat) : Int))) := fun z hz => by
      rw [hz]; congr 2
    have fin3 : ((32 * j + Lib.bitLen y : Nat) : Int) ≤ 32 * (cap : Int) := by omega
    generalize Lib.bitLen y = n at *
    generalize l[j] = x at *
    clear hk hx HC HL hxl hy s1 s2 s3 s32
    go_wp2_with (go_at_call 43; refine (L.out _).mono ?_; rintro en w2 ⟨rfl, rfl⟩)
    go_ret
    exact ⟨_, fin.out, fin3, fin2.out _ (by omega), rfl⟩
end Go.Proofs.YtmjidpkddiinaaaDoor

/-
  The walk of Round: the number nearest to a list of limbs.
-/
namespace Go.Proofs.YtmjidpkddiinaaaDoor
open Go.RowKit Go.Shelf

theorem blen_eq {v : Int} {n : Nat} (h : Bits v n) : v = 0 ∨ blen v = n := by
  by_cases hz : v = 0
  · exact .inl hz
  · exact .inr (blen_of hz h)
theorem joinV_len {neg more : Bool} {v e : Int} {n : Nat} (h : Bits v n) : joinV neg v e n more = joinV neg v e (blen v) more := by
  rcases blen_eq h with h | h
  · unfold joinV; rw [if_pos (.inl h), if_pos (.inl h)]
  · rw [h]

end Go.Proofs.YtmjidpkddiinaaaDoor

/-
  nat.core, nat.Len and float.Round of any list of at most 30000 limbs, nil and empty ones too; []uint32 as an argument.
-/
namespace Go.Proofs.YtmjidpkddiinaaaDoor
open Go.RowKit Go.Shelf Go.ChangeShapes

set_option maxHeartbeats 1000000 in
theorem core_l (l : List Int) (b o cap : Nat) (w : World) (hc : Cells w b o l) (hcap : l.length ≤ cap) (hn9 : (cap : Int) ≤ 9223372036854775807) (_hn : l.length ≤ 30000) :
    Calls Tryd.prog 42 #[.slice (some ⟨b, o, none⟩) l.length cap] w fun e w' => ∃ k : Nat, CoreAt l k ∧ e = .returned (.slice (some ⟨b, o, none⟩) k cap) ∧ w = w' := by
  have HC := Lib.hid hc.2
  clear hc
  go_enter Tryd.func42, Tryd.ntmps42
  go_wp2
  go_loopw [3] (fun n wr => ∃ k : Nat, k ≤ l.length ∧ n = .int .i64 (k : Int) ∧ Hid (∀ i : Nat, k ≤ i → (hi : i < l.length) → l[i] = 0) ∧ w = wr) (fun n _ => (intOf n).toNat)
  case atStart => exact ⟨l.length, Nat.le_refl _, rfl, fun i h1 h2 => by omega, rfl⟩
  case round =>
    obtain ⟨k, hk, rfl, hz, rfl⟩ := hrel
    have hkc : (k : Int) ≤ (cap : Int) := by omega
    cases k with
    | zero =>
      have hk0 : (0 : Int) ≤ (cap : Int) := by omega
      have fin : Hid (CoreAt l 0) := ⟨by omega, hz.out, .inl rfl⟩
      clear HC hz hkc hk
      go_wp2
      go_ret
      exact ⟨0, fin.out, rfl, rfl⟩
    | succ j =>
      have hj : j < l.length := by omega
      have cell : w.cell? ⟨b, o + j, none⟩ = some (.int .u32 l[j]) := HC.out j hj
      have jl : (j : Int) < (l.length : Int) := by omega
      have hj0 : (0 : Int) < (j : Int) + 1 := by omega
      have ej : ((j + 1 : Nat) : Int) = (j : Int) + 1 := by omega
      have hkc2 : (j : Int) + 1 ≤ (cap : Int) := by omega
      by_cases hx : l[j] = 0
      · have hz2 : Hid (∀ i : Nat, j ≤ i → (hi : i < l.length) → l[i] = 0) := fun i h1 h2 => by
          rcases Nat.eq_or_lt_of_le h1 with e | e
          · subst e; exact hx
          · exact hz.out i (by omega) h2
        rw [hx] at cell
        clear hx HC hz
        go_wp2
        go_roundw
        case rel => exact ⟨j, by omega, by go_num, hz2, by first | trivial | rfl⟩
        case measure => simp [intOf]
      · have fin : Hid (CoreAt l (j + 1)) := ⟨by omega, hz.out, .inr ⟨j, hj, rfl, hx⟩⟩
        have hxb : (l[j] == 0) = false := by simpa using hx
        generalize l[j] = x at *
        clear HC hz
        go_wp2
        go_ret
        exact ⟨j + 1, fin.out, rfl, rfl⟩

set_option maxHeartbeats 1000000 in
theorem natlen_l (l : List Int) (b o cap : Nat) (w : World) (hc : Cells w b o l) (hl : ∀ x ∈ l, Limb x) (hcap : l.length ≤ cap) (hn9 : (cap : Int) ≤ 9223372036854775807) (hn : l.length ≤ 30000) :
    Calls Tryd.prog 19 #[.slice (some ⟨b, o, none⟩) l.length cap] w fun e w' => ∃ n : Nat, Bits (natV l) n ∧ (n : Int) ≤ 32 * (l.length : Int) ∧ e = .returned (.int .i64 (n : Int)) ∧ w = w' := by
  have CO := Lib.hid (core_l l b o cap w hc hcap hn9 hn)
  have HC := Lib.hid hc.2
  have HL := Lib.hid hl
  clear hc hl
  go_enter Tryd.func19, Tryd.ntmps19
  go_wp2_with fail
  refine (CO.out).mono ?_
  rintro en w1 ⟨k, hk, rfl, rfl⟩
  clear CO
  rcases hk.last with rfl | ⟨j, hj, rfl, hx⟩
  · have fin : Hid (Bits (natV l) 0) := by
      have e := natV_core hk.zeros
      rw [List.take_zero] at e
      rw [← e]
      exact ⟨by decide, by decide, fun h => absurd rfl h⟩
    clear hk HC HL
    go_wp2
    go_ret
    exact ⟨0, fin.out, by omega, rfl, rfl⟩
  · have cell := HC.out j hj
    have hxl := HL.out l[j] (List.getElem_mem hj)
    obtain ⟨y, hy⟩ := Int.eq_ofNat_of_zero_le hxl.1
    obtain ⟨s1, s2, s3⟩ := bitLen_bd y (by have := hxl.2; omega)
    have s2 := s2 (by omega)
    have s32 : Lib.bitLen y ≤ 32 := by
      rcases Nat.lt_or_ge 32 (Lib.bitLen y) with c | c
      · have := Nat.pow_le_pow_right (show 0 < 2 by decide) (show 33 ≤ Lib.bitLen y by omega)
        have e33 : (2 : Nat) ^ 33 = 8589934592 := rfl
        have := hxl.2
        omega
      · exact c
    have fin : Hid (Bits (natV l) (32 * j + Lib.bitLen y)) := by
      have e := natV_core hk.zeros
      rw [← e]
      exact natV_bits HL.out hj hx (by rw [hy]; exact_mod_cast s1) (by rw [hy]; exact_mod_cast s2)
    have L : Hid (∀ w, Calls Tryd.prog 43 #[.int .u32 l[j]] w fun e w' => e = .returned (.int .i64 (Lib.bitLen y : Int)) ∧ w = w') := fun w => by
      have := Tryd.bits_Len32 l[j] w hxl.1 (by have := hxl.2; omega)
      rw [hy, Int.toNat_natCast] at this
      rw [hy]
      exact this.mono fun _ _ h => ⟨h.1, h.2.symm⟩
    have jl : (j : Int) < (l.length : Int) := by omega
    have hcap' : (l.length : Int) ≤ (cap : Int) := by omega
    have ej : ((j + 1 : Nat) : Int) = (j : Int) + 1 := by omega
    have jn : ((j : Int) + 1 == 0) = false := by simp; omega
    have s4 : (Lib.bitLen y : Int) ≤ 32 := by omega
    have fin2 : Hid (∀ z : Int, z = 32 * (j : Int) + (Lib.bitLen y : Int) → Ending.returned (Value.int .i64 z) = .returned (.int .i64 ((32 * j + Lib.bitLen y : Nat) : Int))) := fun z hz => by
      rw [hz]; congr 2
    have fin3 : ((32 * j + Lib.bitLen y : Nat) : Int) ≤ 32 * (l.length : Int) := by omega
    generalize Lib.bitLen y = n at *
    generalize l[j] = x at *
    clear hk hx HC HL hxl hy s1 s2 s3 s32
    go_wp2_with (go_at_call 43; refine (L.out _).mono ?_; rintro en w2 ⟨rfl, rfl⟩)
    go_ret
    exact ⟨_, fin.out, fin3, fin2.out _ (by omega), rfl⟩
theorem Tryd.cells66 : Tryd.prog.cellsOf 66 = 1 := by kernel_rfl
/-- An argument of limbs is such a slice. -/
theorem sl_of_trod {H : Type} {enc : TypeId × Value → H} {W : World} {A : Option Addr} {n c : Nat} {d : DataW H} {p : List MemPlace} (h : DataW.Trod enc Tryd.prog W 0 (fun _ => true) true 22 (.slice A n c) d p) : ∃ l, Sl W W.heap.size A n c l := by
  obtain ⟨fuel, hf⟩ := h
  rcases open_ints Tryd.underlying22 Tryd.underlying66 Tryd.cells66 hf with ⟨hcs, hx⟩ | ⟨a, len', cap', zs, hcs, _, hl, hm, hz, hx, hcell, hwz⟩
  · simp [Value.cells] at hcs
    obtain ⟨rfl, rfl, rfl⟩ := hcs
    exact ⟨[], Sl.nil_ _ _⟩
  · simp [Value.cells] at hcs
    obtain ⟨rfl, rfl, rfl⟩ := hcs
    simp only [if_true] at hz
    refine ⟨zs.take n, by rw [List.length_take]; omega, hl, hm, fun x hx => ?_, (fun e => by cases e), ?_⟩
    · have := hwz x (List.mem_of_mem_take hx)
      simp [Lit.wf, IntKind.min, IntKind.max, IntKind.signed, IntKind.bits] at this
      exact ⟨by omega, by omega⟩
    · by_cases c0 : n = 0
      · exact .inl c0
      · have h0 := hcell 0 (by omega)
        rw [show a.add 0 = a from rfl] at h0
        have hs := World.cell?_spot h0
        have hb := World.block_lt_of_cell? _ _ h0
        obtain ⟨b, o, sp⟩ := a
        simp at hs
        subst hs
        refine .inr ⟨b, o, rfl, hb, fun i hi => ?_⟩
        rw [List.length_take] at hi
        have := hcell i (by omega)
        rw [Addr.add_lit] at this
        rw [this]
        simp [List.getD, show i < zs.length by omega]

theorem core_nil (A : Option Addr) (c : Nat) (w : World) (hc : (c : Int) ≤ 9223372036854775807) (hA : A = none → c = 0) :
    Calls Tryd.prog 42 #[.slice A 0 c] w fun e w' => e = .returned (.slice A 0 c) ∧ w = w' := by
  have c0 : (0 : Int) ≤ (c : Int) := by omega
  rcases A with _ | ad
  · obtain rfl := hA rfl
    clear hA
    go_enter Tryd.func42, Tryd.ntmps42
    go_wp2
    refine wp_loop_rounds 1 ?_
    rw [rounds_succ]
    go_wp2
    go_ret
    exact ⟨rfl, rfl⟩
  · clear hA
    go_enter Tryd.func42, Tryd.ntmps42
    go_wp2
    refine wp_loop_rounds 1 ?_
    rw [rounds_succ]
    go_wp2
    go_ret
    exact ⟨rfl, rfl⟩
theorem natlen_nil (A : Option Addr) (c : Nat) (w : World) (hc : (c : Int) ≤ 9223372036854775807) (hA : A = none → c = 0) :
    Calls Tryd.prog 19 #[.slice A 0 c] w fun e w' => e = .returned (.int .i64 0) ∧ w = w' := by
  have K := Lib.hid (core_nil A c w hc hA)
  clear hA
  go_enter Tryd.func19, Tryd.ntmps19
  go_wp2_with fail
  refine K.out.mono ?_
  rintro e w' ⟨rfl, rfl⟩
  go_wp2
  go_ret
  exact ⟨rfl, rfl⟩
end Go.Proofs.YtmjidpkddiinaaaDoor

