/-
  The document's Shr, Root.
-/
import Derived.Test.YtomeidbigofnaaaL8
import Derived.Test.YtomeidbigofnaaaL1
namespace Go.Proofs.Ytomeidbigofnaaa
open Go.RowKit Go.Shelf

/-- The bits below the i-th, moved down by s. -/
structure ShrAt (V s : Int) (N : Nat) (i : Int) (o : List Int) (lost : Bool) : Prop where
  len : o.length = N
  lim : ∀ x ∈ o, Limb x
  v : natV o = V % pw i / pw s
  l : lost = decide (V % pw (min i s) ≠ 0)
theorem mod_succ (V i : Int) (hi : 0 ≤ i) : V % pw (i + 1) = V % pw i + pw i * (V / pw i % 2) := by
  have hp := pw_pos i
  have a := Int.mul_ediv_add_emod V (pw i)
  have b := Int.mul_ediv_add_emod (V / pw i) 2
  have r0 := Int.emod_nonneg V (show pw i ≠ 0 by omega)
  have r1 := Int.emod_lt_of_pos V hp
  have t : V = (V % pw i + pw i * (V / pw i % 2)) + pw (i + 1) * (V / pw i / 2) := by
    rw [pw_succ i hi, Int.mul_comm 2 (pw i), Int.mul_assoc]
    have : pw i * (V / pw i) = pw i * (2 * (V / pw i / 2)) + pw i * (V / pw i % 2) := by rw [← Int.mul_add, b]
    omega
  have lt : V % pw i + pw i * (V / pw i % 2) < pw (i + 1) := by
    rw [pw_succ i hi]
    have h2 : V / pw i % 2 = 0 ∨ V / pw i % 2 = 1 := by omega
    rcases h2 with h2 | h2 <;> rw [h2] <;> omega
  have ge : 0 ≤ V % pw i + pw i * (V / pw i % 2) := by
    have := Int.mul_nonneg (Int.le_of_lt hp) (show 0 ≤ V / pw i % 2 by omega)
    omega
  rw [t, Int.add_mul_emod_self_left, Int.emod_eq_of_lt ge lt]
  rw [← t]
theorem shr_no {V s i : Int} {N : Nat} {o : List Int} {lost : Bool} (hi : 0 ≤ i) (h : ShrAt V s N i o lost) (hb : V / pw i % 2 = 0) : ShrAt V s N (i + 1) o lost := by
  obtain ⟨h1, h2, h3, h4⟩ := h
  have e : V % pw (i + 1) = V % pw i := by rw [mod_succ V i hi, hb]; omega
  refine ⟨h1, h2, by rw [h3, e], ?_⟩
  rw [h4]
  rcases Int.lt_or_le i s with c | c
  · rw [show min i s = i by omega, show min (i + 1) s = i + 1 by omega, e]
  · rw [show min i s = s by omega, show min (i + 1) s = s by omega]
theorem shr_lost {V s i : Int} {N : Nat} {o : List Int} {lost : Bool} (hi : 0 ≤ i) (h : ShrAt V s N i o lost) (hb : V / pw i % 2 = 1) (hs : i < s) : ShrAt V s N (i + 1) o true := by
  obtain ⟨h1, h2, h3, h4⟩ := h
  have hp := pw_pos i
  have e : V % pw (i + 1) = V % pw i + pw i := by rw [mod_succ V i hi, hb]; omega
  have r0 := Int.emod_nonneg V (show pw i ≠ 0 by omega)
  have r1 := Int.emod_lt_of_pos V hp
  have m := pw_mono (a := i + 1) (b := s) (by omega) (by omega)
  have p2 := pw_succ i hi
  refine ⟨h1, h2, ?_, ?_⟩
  · rw [h3, e, Int.ediv_eq_zero_of_lt r0 (by omega), Int.ediv_eq_zero_of_lt (by omega) (by omega)]
  · rw [show min (i + 1) s = i + 1 by omega, e]
    have : V % pw i + pw i ≠ 0 := by omega
    simp [this]
theorem shr_bit {V s i : Int} {N : Nat} {o : List Int} {lost : Bool} (_hi : 0 ≤ i) (hs0 : 0 ≤ s) (h : ShrAt V s N i o lost) (hs : s ≤ i) : natV o / pw (i - s) % 2 = 0 := by
  have hp := pw_pos i
  have r0 := Int.emod_nonneg V (show pw i ≠ 0 by omega)
  have r1 := Int.emod_lt_of_pos V hp
  have e : pw i = pw (i - s) * pw s := by rw [← pw_add _ _ (by omega) hs0]; congr 1; omega
  have lt : V % pw i / pw s < pw (i - s) := Int.ediv_lt_of_lt_mul (pw_pos s) (by rw [← e]; exact r1)
  rw [h.v, Int.ediv_eq_zero_of_lt (Int.ediv_nonneg r0 (Int.le_of_lt (pw_pos s))) lt]; rfl
theorem shr_set {V s i x : Int} {N : Nat} {o : List Int} {lost : Bool} (hi : 0 ≤ i) (hs0 : 0 ≤ s) (h : ShrAt V s N i o lost) (hb : V / pw i % 2 = 1) (hs : s ≤ i) (hx : Limb x)
    (hset : natV (o.set ((i - s) / 32).toNat x) = natV o + pw (i - s)) : ShrAt V s N (i + 1) (o.set ((i - s) / 32).toNat x) lost := by
  obtain ⟨h1, h2, h3, h4⟩ := h
  have e : V % pw (i + 1) = V % pw i + pw s * pw (i - s) := by rw [mod_succ V i hi, hb, ← pw_add _ _ hs0 (by omega), show s + (i - s) = i by omega]; omega
  refine ⟨by rw [List.length_set, h1], limbs_set h2 _ hx, ?_, ?_⟩
  · rw [hset, h3, e, Int.add_mul_ediv_left _ _ (Int.ne_of_gt (pw_pos s))]
  · rw [h4, show min i s = s by omega, show min (i + 1) s = s by omega]
theorem shr_start (V s : Int) (N : Nat) (hs : 0 ≤ s) : ShrAt V s N 0 (List.replicate N 0) false := by
  refine ⟨by simp, limbs_rep _, ?_, ?_⟩
  · rw [natV_rep, show pw 0 = 1 from rfl, Int.emod_one, Int.zero_ediv]
  · rw [show min 0 s = 0 by omega, show pw 0 = 1 from rfl, Int.emod_one]; simp
theorem shr_end {V s : Int} {N : Nat} {o : List Int} {lost : Bool} (hV : 0 ≤ V) (hlt : V < pw (32 * (N : Int))) (h : ShrAt V s N (32 * (N : Int)) o lost) : natV o = V / pw s ∧ lost = decide (V % pw s ≠ 0) := by
  obtain ⟨h1, h2, h3, h4⟩ := h
  have e := Int.emod_eq_of_lt hV hlt
  rw [e] at h3
  refine ⟨h3, ?_⟩
  rw [h4]
  rcases Int.lt_or_le (32 * (N : Int)) s with c | c
  · rw [show min (32 * (N : Int)) s = 32 * (N : Int) by omega, e]
    have m := pw_mono (a := 32 * (N : Int)) (b := s) (by omega) (by omega)
    rw [Int.emod_eq_of_lt hV (by omega)]
  · rw [show min (32 * (N : Int)) s = s by omega]

/-- A natural, a bool, an error's number 0. -/
def NatBOPost (P : Int → Bool → Prop) (w : World) (e : Ending) (w' : World) : Prop :=
  ∃ A n c l o, e = .returned (.tuple #[.slice A n c, .bool o, .int .i64 0]) ∧ Sl w' w'.heap.size A n c l ∧ Norm l ∧ P (natV l) o ∧ Below w.heap.size w w'

/-- The document's root. -/
def RRootPost (v : Int) (w : World) (e : Ending) (w' : World) : Prop := ∃ r : Int, e = .returned (.int .u64 r) ∧ Word r ∧ r * r ≤ v ∧ v < (r + 1) * (r + 1) ∧ Below w.heap.size w w'
theorem rroot_unique {r s v : Int} (hr : 0 ≤ r) (hs : 0 ≤ s) (h1 : r * r ≤ v) (h2 : v < (r + 1) * (r + 1)) (h3 : s * s ≤ v) (h4 : v < (s + 1) * (s + 1)) : r = s := by
  rcases Int.lt_trichotomy r s with c | c | c
  · have := Int.mul_le_mul (show r + 1 ≤ s by omega) (show r + 1 ≤ s by omega) (by omega) hs; omega
  · exact c
  · have := Int.mul_le_mul (show s + 1 ≤ r by omega) (show s + 1 ≤ r by omega) (by omega) hr; omega
end Go.Proofs.Ytomeidbigofnaaa
