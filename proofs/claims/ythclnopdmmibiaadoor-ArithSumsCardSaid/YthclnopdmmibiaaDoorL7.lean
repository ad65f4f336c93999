/-
  The document's naturals: Parts, bit by bit.
-/
import Derived.Test.YthclnopdmmibiaaDoorL5
namespace Go.Proofs.YthclnopdmmibiaaDoor
open Go.RowKit Go.Shelf

theorem nat_or_bit (a r : Nat) (h : a / 2 ^ r % 2 = 0) : a ||| 2 ^ r = a + 2 ^ r := by
  have e : a = 2 ^ (r + 1) * (a / 2 ^ (r + 1)) + a % 2 ^ (r + 1) := (Nat.div_add_mod a (2 ^ (r + 1))).symm
  have lt : a % 2 ^ (r + 1) < 2 ^ r := by
    have h1 : a % 2 ^ (r + 1) / 2 ^ r = 0 := by
      rw [Nat.pow_succ, Nat.mod_mul_right_div_self]; exact h
    exact (Nat.div_eq_zero_iff_lt (Nat.two_pow_pos r)).1 h1
  generalize a / 2 ^ (r + 1) = A at *
  generalize a % 2 ^ (r + 1) = B at *
  subst e
  have lt2 : B + 2 ^ r < 2 ^ (r + 1) := by rw [Nat.pow_succ]; omega
  have e1 : B ||| 2 ^ r = B + 2 ^ r := by
    have := Nat.two_pow_add_eq_or_of_lt lt 1
    rw [Nat.mul_one] at this
    rw [Nat.or_comm, ← this, Nat.add_comm]
  have e3 : (2 ^ (r + 1) * A + B) ||| 2 ^ r = 2 ^ (r + 1) * A + (B + 2 ^ r) := by
    rw [Nat.two_pow_add_eq_or_of_lt (show B < 2 ^ (r + 1) by omega), Nat.or_assoc, e1, ← Nat.two_pow_add_eq_or_of_lt lt2]
  rw [e3]; omega
theorem u32_or_bit {a r : Int} (ha : Limb a) (h0 : 0 ≤ r) (h1 : r < 32) (h : a / pw r % 2 = 0) : bits .or .u32 a (pw r) = a + pw r := by
  obtain ⟨n, rfl⟩ := Int.eq_ofNat_of_zero_le ha.1
  obtain ⟨k, rfl⟩ := Int.eq_ofNat_of_zero_le h0
  have hp : pw (k : Int) = ((2 ^ k : Nat) : Int) := rfl
  have hb : (2 : Nat) ^ k < 4294967296 := by
    have := Nat.pow_lt_pow_right (a := 2) (by decide) (show k < 32 by omega)
    omega
  have hn : n < 4294967296 := by have := ha.2; omega
  rw [hp] at h ⊢
  have h' : n / 2 ^ k % 2 = 0 := by exact_mod_cast h
  rw [u32_or_nat n (2 ^ k) hn hb, nat_or_bit n k h']
  push_cast; rfl
/-- A bit that was 0 is set. -/
theorem natV_setbit {l : List Int} (hl : ∀ x ∈ l, Limb x) {i : Int} (h0 : 0 ≤ i) (hi : (i / 32).toNat < l.length) (hb : natV l / pw i % 2 = 0) :
    bits .or .u32 (digV l (i / 32).toNat) (pw (i % 32)) = digV l (i / 32).toNat + pw (i % 32) ∧ Limb (digV l (i / 32).toNat + pw (i % 32)) ∧ natV (l.set (i / 32).toNat (digV l (i / 32).toNat + pw (i % 32))) = natV l + pw i := by
  have hd := digV_limb hl (i / 32).toNat
  have hbit := bit_dig hl i h0
  have z : digV l (i / 32).toNat / pw (i % 32) % 2 = 0 := by
    unfold bitV at hbit
    have h1 : digV l (i / 32).toNat / pw (i % 32) % 2 ≠ 1 := fun e => by
      rw [e, hb] at hbit; simp at hbit
    omega
  have ep : pw i = pw (32 * ((i / 32).toNat : Int)) * pw (i % 32) := by rw [← pw_add _ _ (by omega) (by omega)]; congr 1; omega
  have e1 := u32_or_bit hd (by omega) (by omega) z
  have e2 : (4294967296 : Int) = pw (i % 32 + 1) * pw (31 - i % 32) := by rw [← pw_add _ _ (by omega) (by omega), show i % 32 + 1 + (31 - i % 32) = 32 by omega]; rfl
  have e3 := pw_succ (i % 32) (by omega)
  refine ⟨e1, ?_, ?_⟩
  · have hp := pw_pos (i % 32)
    have hq := pw_pos (31 - i % 32)
    unfold Limb at *
    generalize digV l (i / 32).toNat = x at *
    generalize pw (i % 32) = p at *
    generalize pw (i % 32 + 1) = P at *
    generalize pw (31 - i % 32) = q at *
    refine ⟨by omega, ?_⟩
    -- x + p ≤ P * (x / P) + P - 1 + ... : x's bit at p is 0
    have a1 := Int.mul_ediv_add_emod x P
    have a2 := Int.emod_lt_of_pos x (show 0 < P by omega)
    have a3 : x % P < p := by
      have b1 := Int.mul_ediv_add_emod x p
      have b2 := Int.emod_lt_of_pos x hp
      have b3 := Int.emod_nonneg x (show p ≠ 0 by omega)
      have b4 : x / p = 2 * (x / p / 2) := by omega
      have b5 : x = x % p + P * (x / p / 2) := by rw [e3, Int.mul_assoc, Int.mul_left_comm, ← b4]; rw [Int.mul_comm] at b1; rw [Int.mul_comm]; omega
      rw [b5, Int.add_mul_emod_self_left, Int.emod_eq_of_lt b3 (by omega)]; exact b2
    have a4 : x / P < q := Int.ediv_lt_of_lt_mul (by omega) (by rw [Int.mul_comm]; omega)
    have a5 := Int.mul_le_mul_of_nonneg_left (show x / P + 1 ≤ q by omega) (show 0 ≤ P by omega)
    rw [Int.mul_add] at a5
    omega
  · rw [natV_set _ hi, ← digV_lt hi, ep]
    rw [show digV l (i / 32).toNat + pw (i % 32) - digV l (i / 32).toNat = pw (i % 32) by omega]

/-- The quotient's bits from the k-th on, and what is left. -/
structure PartsAt (V d : Int) (N : Nat) (k : Int) (o : List Int) (R : Int) : Prop where
  len : o.length = N
  lim : ∀ x ∈ o, Limb x
  q : natV o = V / pw k / d * pw k
  r : R = V / pw k % d
theorem halves (V k : Int) (hk : 0 ≤ k) : V / pw k = 2 * (V / pw (k + 1)) + V / pw k % 2 := by
  rw [pw_succ k hk, Int.mul_comm 2 (pw k), ← Int.ediv_ediv_of_nonneg (Int.le_of_lt (pw_pos k))]; omega
theorem b2i_bit (V k : Int) : b2i (bitV V k) = V / pw k % 2 := by
  unfold b2i bitV
  by_cases c : V / pw k % 2 = 1
  · simp [c]
  · simp [c]; omega
theorem parts_bit {V d k : Int} {N : Nat} {o : List Int} {R : Int} (hk : 0 ≤ k) (h : PartsAt V d N (k + 1) o R) : natV o / pw k % 2 = 0 := by
  rw [h.q, pw_succ k hk, ← Int.mul_assoc, Int.mul_comm _ 2, Int.mul_ediv_cancel _ (Int.ne_of_gt (pw_pos k))]
  omega
theorem parts_keep {V d k : Int} {N : Nat} {o : List Int} {R S : Int} (hV : 0 ≤ V) (hd : 0 < d) (hk : 0 ≤ k) (h : PartsAt V d N (k + 1) o R) (hS : S = 2 * R + V / pw k % 2) (hlt : S < d) : PartsAt V d N k o S := by
  obtain ⟨h1, h2, h3, h4⟩ := h
  have e := halves V k hk
  have a := Int.mul_ediv_add_emod (V / pw (k + 1)) d
  rw [← h4] at a
  have r0 : 0 ≤ R := by rw [h4]; exact Int.emod_nonneg _ (by omega)
  have v0 : 0 ≤ V / pw k := Int.ediv_nonneg hV (Int.le_of_lt (pw_pos k))
  have e2 : V / pw k = S + d * (2 * (V / pw (k + 1) / d)) := by rw [Int.mul_left_comm]; omega
  have ep := pw_succ k hk
  generalize V / pw (k + 1) = Q at *
  refine ⟨h1, h2, ?_, ?_⟩
  · rw [h3, ep, e2, Int.add_mul_ediv_left _ _ (by omega), Int.ediv_eq_zero_of_lt (by omega) hlt, Int.zero_add, ← Int.mul_assoc, Int.mul_comm _ 2]
  · rw [e2, Int.add_mul_emod_self_left, Int.emod_eq_of_lt (by omega) hlt]
theorem parts_set {V d k : Int} {N : Nat} {o : List Int} {R S x : Int} (hV : 0 ≤ V) (hd : 0 < d) (hk : 0 ≤ k) (h : PartsAt V d N (k + 1) o R) (hS : S = 2 * R + V / pw k % 2) (hge : d ≤ S)
    (hx : Limb x) (hset : natV (o.set (k / 32).toNat x) = natV o + pw k) : PartsAt V d N k (o.set (k / 32).toNat x) (S - d) := by
  obtain ⟨h1, h2, h3, h4⟩ := h
  have e := halves V k hk
  have a := Int.mul_ediv_add_emod (V / pw (k + 1)) d
  rw [← h4] at a
  have r0 : 0 ≤ R := by rw [h4]; exact Int.emod_nonneg _ (by omega)
  have r1 : R < d := by rw [h4]; exact Int.emod_lt_of_pos _ hd
  have v0 : 0 ≤ V / pw k := Int.ediv_nonneg hV (Int.le_of_lt (pw_pos k))
  have lt : S - d < d := by omega
  have e2 : V / pw k = (S - d) + d * (2 * (V / pw (k + 1) / d) + 1) := by rw [Int.mul_add, Int.mul_left_comm]; omega
  have ep := pw_succ k hk
  generalize V / pw (k + 1) = Q at *
  refine ⟨by rw [List.length_set, h1], limbs_set h2 _ hx, ?_, ?_⟩
  · rw [hset, h3, ep, e2, Int.add_mul_ediv_left _ _ (by omega), Int.ediv_eq_zero_of_lt (by omega) lt, Int.zero_add, ← Int.mul_assoc, Int.mul_comm _ 2, Int.add_mul, Int.one_mul]
  · rw [e2, Int.add_mul_emod_self_left, Int.emod_eq_of_lt (by omega) lt]
theorem parts_start {V d : Int} {N : Nat} (hV : 0 ≤ V) (hlt : V < pw (32 * (N : Int))) : PartsAt V d N (32 * (N : Int)) (List.replicate N 0) 0 :=
  ⟨by simp, limbs_rep _, by rw [natV_rep, Int.ediv_eq_zero_of_lt hV hlt, Int.zero_ediv, Int.zero_mul], by rw [Int.ediv_eq_zero_of_lt hV hlt, Int.zero_emod]⟩

theorem row_below {w w' : World} {base g N : Nat} {xs : List Value} (h : w.ownsRow base 63 1 (.slice (some ⟨g, 0, none⟩) N N) N xs) (hb : Below w.heap.size w w') : w'.ownsRow base 63 1 (.slice (some ⟨g, 0, none⟩) N N) N xs := by
  have hlt := (h.lt _ rfl).2
  rcases h.2 with ⟨h', _⟩ | ⟨g', cap, cur, h', h1, h2, h3⟩
  · cases h'
  · obtain rfl : g' = g := by injection h' with e; injection e with e; injection e with e; exact e.symm
    exact ⟨h.1, .inr ⟨g', cap, cur, h', h1, (hb.block g' hlt).trans h2, h3⟩⟩
theorem row_sl {w : World} {base g N : Nat} {o : List Int} (h : w.ownsRow base 63 1 (.slice (some ⟨g, 0, none⟩) N N) N (o.map (Value.int .u32))) (hl : ∀ x ∈ o, Limb x) : Sl w w.heap.size (some ⟨g, 0, none⟩) N N o := by
  obtain ⟨A, c, e, hs, _⟩ := Sl.of_own h hl
  injection e with e1 e2 e3
  subst e1 e3
  exact hs
theorem Sl.far {w : World} {B g j : Nat} {A : Option Addr} {n c : Nat} {l : List Int} {u : Value} (h : Sl w B A n c l) (hf : Fresh (g + 1) A) : Sl (w.setCell ⟨g, j, none⟩ u) B A n c l := by
  refine ⟨h.len, h.cap, h.max, h.lim, h.nil, ?_⟩
  rcases h.rd with h0 | ⟨b, o, hA, hb, hc⟩
  · exact .inl h0
  · refine .inr ⟨b, o, hA, hb, fun i hi => ?_⟩
    have hbl : g + 1 ≤ b := hf _ hA
    rw [World.cell?_setCell_other _ _ _ _ (fun e => by have := congrArg Addr.block e; simp at this; omega)]
    exact hc i hi

theorem Sl.on' {w w' : World} {A : Option Addr} {n c : Nat} {l : List Int} (h : Sl w w.heap.size A n c l) (hb : Below w.heap.size w w') : Sl w' w'.heap.size A n c l := h.on hb
/-- What Parts answers: two naturals. -/
def PartsPost (x y : Int) (w : World) (e : Ending) (w' : World) : Prop :=
  ∃ A n c l A' n' c' l', e = .returned (.tuple #[.slice A n c, .slice A' n' c']) ∧ Sl w' w'.heap.size A n c l ∧ Norm l ∧ natV l = x ∧ Sl w' w'.heap.size A' n' c' l' ∧ Norm l' ∧ natV l' = y ∧ Below w.heap.size w w'

end Go.Proofs.YthclnopdmmibiaaDoor
