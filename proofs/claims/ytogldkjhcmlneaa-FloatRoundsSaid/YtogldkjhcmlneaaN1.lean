/-
  The walks of package nat that Round needs: core, Len.
-/
import Derived.Test.YtogldkjhcmlneaaN0
import Derived.Deep.DeepCutAuto
import Derived.Deep.CutBlock
namespace Go.Proofs.Ytogldkjhcmlneaa
open Go.RowKit Go.Shelf

/-- A slice's cells are the list. -/
def Cells (w : World) (b o : Nat) (l : List Int) : Prop := b < w.heap.size ∧ ∀ i : Nat, (h : i < l.length) → w.cell? ⟨b, o + i, none⟩ = some (.int .u32 l[i])
theorem Cells.below {w w' : World} {b o : Nat} {l : List Int} (h : Cells w b o l) (hb : Below w.heap.size w w') : Cells w' b o l :=
  ⟨Nat.lt_of_lt_of_le h.1 hb.size, fun i hi => by rw [(bcell hb).1 _ _ h.1]; exact h.2 i hi⟩
/-- k limbs are left when the zeros at the end are gone. -/
structure CoreAt (l : List Int) (k : Nat) : Prop where
  le : k ≤ l.length
  zeros : ∀ i : Nat, k ≤ i → (hi : i < l.length) → l[i] = 0
  last : k = 0 ∨ ∃ j : Nat, ∃ h : j < l.length, k = j + 1 ∧ l[j] ≠ 0

set_option maxHeartbeats 1000000 in
theorem core_any (l : List Int) (b o cap : Nat) (w : World) (hc : Cells w b o l) (hcap : l.length ≤ cap) (hn : (cap : Int) < 9223372036854775807) :
    Calls Try.prog 65 #[.slice (some ⟨b, o, none⟩) l.length cap] w fun e w' => ∃ k : Nat, CoreAt l k ∧ e = .returned (.slice (some ⟨b, o, none⟩) k cap) ∧ w = w' := by
  have HC := Lib.hid hc.2
  clear hc
  go_enter Try.func65, Try.ntmps65
  go_wp2
  go_loopw [3] (fun n wr => ∃ k : Nat, k ≤ l.length ∧ n = .int .i64 (k : Int) ∧ Hid (∀ i : Nat, k ≤ i → (hi : i < l.length) → l[i] = 0) ∧ w = wr) (fun n _ => (intOf n).toNat)
  case atStart => exact ⟨l.length, Nat.le_refl _, rfl, fun i h1 h2 => by omega, rfl⟩
  case round =>
    obtain ⟨k, hk, rfl, hz, rfl⟩ := hrel
    have hkc : (k : Int) ≤ (cap : Int) := by omega
    cases k with
    | zero =>
      have hk0 : (0 : Int) ≤ (cap : Int) := by omega
      have fin : Hid (CoreAt l 0) := ⟨by omega, hz.out, .inl rfl⟩
      clear HC hz hkc hk
      go_wp2
      go_ret
      exact ⟨0, fin.out, rfl, rfl⟩
    | succ j =>
      have hj : j < l.length := by omega
      have cell : w.cell? ⟨b, o + j, none⟩ = some (.int .u32 l[j]) := HC.out j hj
      have jl : (j : Int) < (l.length : Int) := by omega
      have hj0 : (0 : Int) < (j : Int) + 1 := by omega
      have ej : ((j + 1 : Nat) : Int) = (j : Int) + 1 := by omega
      have hkc2 : (j : Int) + 1 ≤ (cap : Int) := by omega
      by_cases hx : l[j] = 0
      · have hz2 : Hid (∀ i : Nat, j ≤ i → (hi : i < l.length) → l[i] = 0) := fun i h1 h2 => by
          rcases Nat.eq_or_lt_of_le h1 with e | e
          · subst e; exact hx
          · exact hz.out i (by omega) h2
        rw [hx] at cell
        clear hx HC hz
        go_wp2
        go_roundw
        case rel => exact ⟨j, by omega, by go_num, hz2, by first | trivial | rfl⟩
        case measure => simp [intOf]
      · have fin : Hid (CoreAt l (j + 1)) := ⟨by omega, hz.out, .inr ⟨j, hj, rfl, hx⟩⟩
        have hxb : (l[j] == 0) = false := by simpa using hx
        generalize l[j] = x at *
        clear HC hz
        go_wp2
        go_ret
        exact ⟨j + 1, fin.out, rfl, rfl⟩

/-- What Join and Round come to, of a number of any size. -/
theorem near_join {neg more lost : Bool} {v e : Int} {n : Nat} (h0 : 0 ≤ v) (h1 : v < (2 ^ n : Nat)) (h2 : v ≠ 0 → ((2 ^ n : Nat) : Int) ≤ 2 * v) (hl : lost = false ↔ v % pw (max ((n : Int) - 64) 0) = 0) :
    nearI neg (v / pw (max ((n : Int) - 64) 0)) (max ((n : Int) - 64) 0) e (Lib.bitLen (v / pw (max ((n : Int) - 64) 0)).toNat : Int) (more || lost) = joinV neg v e n more := by
  by_cases hz : v = 0
  · subst hz
    have : (0 : Int) / pw (max ((n : Int) - 64) 0) = 0 := Int.zero_ediv _
    unfold nearI joinV
    rw [this, if_pos (.inl rfl), if_pos (.inl rfl)]
  have h2 := h2 hz
  have en2 : ((2 ^ n : Nat) : Int) = pw (n : Int) := rfl
  by_cases c : (n : Int) ≤ 64
  · have e0 : max ((n : Int) - 64) 0 = 0 := by omega
    rw [e0] at hl ⊢
    rw [show pw 0 = 1 from rfl] at hl ⊢
    rw [Int.ediv_one]
    have hl2 : lost = false := hl.2 (by omega)
    have hv64 : v < 18446744073709551616 := by
      rw [en2] at h1
      have := pow_lt (show 0 ≤ (n : Int) by omega) c
      rw [pw_64] at this; omega
    obtain ⟨s1, s2, s3⟩ := bitLen_bd v.toNat (by omega)
    have s2 := s2 (by omega)
    have hs : Lib.bitLen v.toNat = n := len_unique (v := v) (by generalize 2 ^ Lib.bitLen v.toNat = z at *; omega) (by generalize 2 ^ Lib.bitLen v.toNat = z at *; omega) h1 h2
    rw [hs, hl2, Bool.or_false]
    unfold nearI joinV
    by_cases c1 : v = 0 ∨ e < -2148 - 0 - (n : Int)
    · have d1 : v = 0 ∨ e < -2148 - (n : Int) := by omega
      rw [if_pos c1, if_pos d1]
    · have d1 : ¬(v = 0 ∨ e < -2148 - (n : Int)) := by omega
      rw [if_neg c1, if_neg d1]
      by_cases c2 : 1024 < e ∨ 1024 < 0 + e + (n : Int)
      · have d2 : 1024 < e ∨ 1024 < e + (n : Int) := by omega
        rw [if_pos c2, if_pos d2]
      · have d2 : ¬(1024 < e ∨ 1024 < e + (n : Int)) := by omega
        rw [if_neg c2, if_neg d2]
        have eL : lastI (e + 0) n = placeI e n := by unfold lastI placeI; congr 1; omega
        rw [eL, Int.add_zero]
        congr 2
        unfold packI packV
        by_cases c3 : placeI e n - e ≤ 0
        · rw [if_pos c3, if_pos c3]
          have c4 : -(placeI e n - e) ≤ 53 - (n : Int) := by unfold placeI; omega
          rw [Nat.min_eq_left (by omega), pw_eq, IntKind.wrap_u64, Int.emod_eq_of_lt (Int.mul_nonneg h0 (Int.le_of_lt (pw_pos _)))]
          rw [en2] at h1
          have a := Int.mul_lt_mul_of_pos_right h1 (pw_pos (-(placeI e n - e)))
          rw [← pw_add _ _ (by omega) (by omega)] at a
          have b := pow_lt (show 0 ≤ (n : Int) + -(placeI e n - e) by omega) (show (n : Int) + -(placeI e n - e) ≤ 64 by omega)
          rw [pw_64] at b
          omega
        · rw [if_neg c3, if_neg c3]
  · have e0 : max ((n : Int) - 64) 0 = (n : Int) - 64 := by omega
    rw [e0] at hl ⊢
    have hq := pw_pos ((n : Int) - 64)
    have esp : pw (n : Int) = pw ((n : Int) - 64) * 18446744073709551616 := by rw [← pw_64, ← pw_add _ _ (by omega) (by omega)]; congr 1; omega
    have t1 : v / pw ((n : Int) - 64) < 18446744073709551616 := Int.ediv_lt_of_lt_mul hq (by rw [en2, esp, Int.mul_comm] at h1; exact h1)
    have t0 : 9223372036854775808 ≤ v / pw ((n : Int) - 64) := by
      rw [Int.le_ediv_iff_mul_le hq, Int.mul_comm]
      rw [en2, esp] at h2; omega
    have hs : (Lib.bitLen (v / pw ((n : Int) - 64)).toNat : Int) = 64 := by
      have := size_of' t0 t1
      exact this
    rw [hs]
    unfold nearI joinV
    by_cases c1 : e < -2148 - (n : Int)
    · have d1 : v / pw ((n : Int) - 64) = 0 ∨ e < -2148 - ((n : Int) - 64) - 64 := by omega
      rw [if_pos d1, if_pos (.inr c1)]
    · have d1 : ¬(v / pw ((n : Int) - 64) = 0 ∨ e < -2148 - ((n : Int) - 64) - 64) := by omega
      have d3 : ¬(v = 0 ∨ e < -2148 - (n : Int)) := by omega
      rw [if_neg d1, if_neg d3]
      by_cases c2 : 1024 < e ∨ 1024 < e + (n : Int)
      · have d2 : 1024 < e ∨ 1024 < (n : Int) - 64 + e + 64 := by omega
        rw [if_pos d2, if_pos c2]
      · have d2 : ¬(1024 < e ∨ 1024 < (n : Int) - 64 + e + 64) := by omega
        rw [if_neg d2, if_neg c2]
        have eL : lastI (e + ((n : Int) - 64)) 64 = placeI e n := by unfold lastI placeI; congr 1; omega
        rw [eL]
        congr 2
        have c3 : 11 ≤ placeI e n - (e + ((n : Int) - 64)) := by unfold placeI; omega
        unfold packI packV
        rw [if_neg (by omega), if_neg (by omega), round_top v ((n : Int) - 64) _ more lost (by omega) (by omega) hl]
        congr 1; omega

set_option maxHeartbeats 1000000 in
theorem natlen_any (l : List Int) (b o cap : Nat) (w : World) (hc : Cells w b o l) (hl : ∀ x ∈ l, Limb x) (hcap : l.length ≤ cap) (hn : (cap : Int) < 1125899906842624) :
    Calls Try.prog 60 #[.slice (some ⟨b, o, none⟩) l.length cap] w fun e w' => ∃ n : Nat, Bits (natV l) n ∧ (n : Int) ≤ 32 * (cap : Int) ∧ e = .returned (.int .i64 (n : Int)) ∧ w = w' := by
  have CO := Lib.hid (core_any l b o cap w hc hcap (by omega))
  have HC := Lib.hid hc.2
  have HL := Lib.hid hl
  clear hc hl
  go_enter Try.func60, Try.ntmps60
  go_wp2_with fail
  refine (CO.out).mono ?_
  rintro en w1 ⟨k, hk, rfl, rfl⟩
  clear CO
  rcases hk.last with rfl | ⟨j, hj, rfl, hx⟩
  · have fin : Hid (Bits (natV l) 0) := by
      have e := natV_core hk.zeros
      rw [List.take_zero] at e
      rw [← e]
      exact ⟨by decide, by decide, fun h => absurd rfl h⟩
    clear hk HC HL
    go_wp2
    go_ret
    exact ⟨0, fin.out, by omega, rfl, rfl⟩
  · have cell := HC.out j hj
    have hxl := HL.out l[j] (List.getElem_mem hj)
    obtain ⟨y, hy⟩ := Int.eq_ofNat_of_zero_le hxl.1
    obtain ⟨s1, s2, s3⟩ := bitLen_bd y (by have := hxl.2; omega)
    have s2 := s2 (by omega)
    have s32 : Lib.bitLen y ≤ 32 := by
      rcases Nat.lt_or_ge 32 (Lib.bitLen y) with c | c
      · have := Nat.pow_le_pow_right (show 0 < 2 by decide) (show 33 ≤ Lib.bitLen y by omega)
        have e33 : (2 : Nat) ^ 33 = 8589934592 := rfl
        have := hxl.2
        omega
      · exact c
    have fin : Hid (Bits (natV l) (32 * j + Lib.bitLen y)) := by
      have e := natV_core hk.zeros
      rw [← e]
      exact natV_bits HL.out hj hx (by rw [hy]; exact_mod_cast s1) (by rw [hy]; exact_mod_cast s2)
    have L : Hid (∀ w, Calls Try.prog 66 #[.int .u32 l[j]] w fun e w' => e = .returned (.int .i64 (Lib.bitLen y : Int)) ∧ w = w') := fun w => by
      have := Try.bits_Len32 l[j] w hxl.1 (by have := hxl.2; omega)
      rw [hy, Int.toNat_natCast] at this
      rw [hy]
      exact this.mono fun _ _ h => ⟨h.1, h.2.symm⟩
    have jl : (j : Int) < (l.length : Int) := by omega
    have hcap' : (l.length : Int) ≤ (cap : Int) := by omega
    have ej : ((j + 1 : Nat) : Int) = (j : Int) + 1 := by omega
    have jn : ((j : Int) + 1 == 0) = false := by simp; omega
    have s4 : (Lib.bitLen y : Int) ≤ 32 := by omega
    have fin2 : Hid (∀ z : Int, z = 32 * (j : Int) + (Lib.bitLen y : Int) → Ending.returned (Value.int .i64 z) = .returned (.int .i64 ((32 * j + Lib.bitLen y : Nat) : Int))) := fun z hz => by
      rw [hz]; congr 2
    have fin3 : ((32 * j + Lib.bitLen y : Nat) : Int) ≤ 32 * (cap : Int) := by omega
    generalize Lib.bitLen y = n at *
    generalize l[j] = x at *
    clear hk hx HC HL hxl hy s1 s2 s3 s32
    go_wp2_with (go_at_call 66; refine (L.out _).mono ?_; rintro en w2 ⟨rfl, rfl⟩)
    go_ret
    exact ⟨_, fin.out, fin3, fin2.out _ (by omega), rfl⟩
end Go.Proofs.Ytogldkjhcmlneaa
