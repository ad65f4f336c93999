/-
  The document's naturals: Parts, bit by bit.
-/
import Derived.Test.YtomeidbigofnaaaL5
namespace Go.Proofs.Ytomeidbigofnaaa
open Go.RowKit Go.Shelf

theorem nat_or_bit (a r : Nat) (h : a / 2 ^ r % 2 = 0) : a ||| 2 ^ r = a + 2 ^ r := by
  have e : a = 2 ^ (r + 1) * (a / 2 ^ (r + 1)) + a % 2 ^ (r + 1) := (Nat.div_add_mod a (2 ^ (r + 1))).symm
  have lt : a % 2 ^ (r + 1) < 2 ^ r := by
    have h1 : a % 2 ^ (r + 1) / 2 ^ r = 0 := by
      rw [Nat.pow_succ, Nat.mod_mul_right_div_self]; exact h
    exact (Nat.div_eq_zero_iff_lt (Nat.two_pow_pos r)).1 h1
  generalize a / 2 ^ (r + 1) = A at *
  generalize a % 2 ^ (r + 1) = B at *
  subst e
  have lt2 : B + 2 ^ r < 2 ^ (r + 1) := by rw [Nat.pow_succ]; omega
  have e1 : B ||| 2 ^ r = B + 2 ^ r := by
    have := Nat.two_pow_add_eq_or_of_lt lt 1
    rw [Nat.mul_one] at this
    rw [Nat.or_comm, ← this, Nat.add_comm]
  have e3 : (2 ^ (r + 1) * A + B) ||| 2 ^ r = 2 ^ (r + 1) * A + (B + 2 ^ r) := by
    rw [Nat.two_pow_add_eq_or_of_lt (show B < 2 ^ (r + 1) by omega), Nat.or_assoc, e1, ← Nat.two_pow_add_eq_or_of_lt lt2]
  rw [e3]; omega
theorem u32_or_bit {a r : Int} (ha : Limb a) (h0 : 0 ≤ r) (h1 : r < 32) (h : a / pw r % 2 = 0) : bits .or .u32 a (pw r) = a + pw r := by
  obtain ⟨n, rfl⟩ := Int.eq_ofNat_of_zero_le ha.1
  obtain ⟨k, rfl⟩ := Int.eq_ofNat_of_zero_le h0
  have hp : pw (k : Int) = ((2 ^ k : Nat) : Int) := rfl
  have hb : (2 : Nat) ^ k < 4294967296 := by
    have := Nat.pow_lt_pow_right (a := 2) (by decide) (show k < 32 by omega)
    omega
  have hn : n < 4294967296 := by have := ha.2; omega
  rw [hp] at h ⊢
  have h' : n / 2 ^ k % 2 = 0 := by exact_mod_cast h
  rw [u32_or_nat n (2 ^ k) hn hb, nat_or_bit n k h']
  push_cast; rfl
/-- A bit that was 0 is set. -/
theorem natV_setbit {l : List Int} (hl : ∀ x ∈ l, Limb x) {i : Int} (h0 : 0 ≤ i) (hi : (i / 32).toNat < l.length) (hb : natV l / pw i % 2 = 0) :
    bits .or .u32 (digV l (i / 32).toNat) (pw (i % 32)) = digV l (i / 32).toNat + pw (i % 32) ∧ Limb (digV l (i / 32).toNat + pw (i % 32)) ∧ natV (l.set (i / 32).toNat (digV l (i / 32).toNat + pw (i % 32))) = natV l + pw i := by
  have hd := digV_limb hl (i / 32).toNat
  have hbit := bit_dig hl i h0
  have z : digV l (i / 32).toNat / pw (i % 32) % 2 = 0 := by
    unfold bitV at hbit
    have h1 : digV l (i / 32).toNat / pw (i % 32) % 2 ≠ 1 := fun e => by
      rw [e, hb] at hbit; simp at hbit
    omega
  have ep : pw i = pw (32 * ((i / 32).toNat : Int)) * pw (i % 32) := by rw [← pw_add _ _ (by omega) (by omega)]; congr 1; omega
  have e1 := u32_or_bit hd (by omega) (by omega) z
  have e2 : (4294967296 : Int) = pw (i % 32 + 1) * pw (31 - i % 32) := by rw [← pw_add _ _ (by omega) (by omega), show i % 32 + 1 + (31 - i % 32) = 32 by omega]; rfl
  have e3 := pw_succ (i % 32) (by omega)
  refine ⟨e1, ?_, ?_⟩
  · have hp := pw_pos (i % 32)
    have hq := pw_pos (31 - i % 32)
    unfold Limb at *
    generalize digV l (i / 32).toNat = x at *
    generalize pw (i % 32) = p at *
    generalize pw (i % 32 + 1) = P at *
    generalize pw (31 - i % 32) = q at *
    refine ⟨by omega, ?_⟩
    -- x + p ≤ P * (x / P) + P - 1 + ... : x's bit at p is 0
    have a1 := Int.mul_ediv_add_emod x P
    have a2 := Int.emod_lt_of_pos x (show 0 < P by omega)
    have a3 : x % P < p := by
      have b1 := Int.mul_ediv_add_emod x p
      have b2 := Int.emod_lt_of_pos x hp
      have b3 := Int.emod_nonneg x (show p ≠ 0 by omega)
      have b4 : x / p = 2 * (x / p / 2) := by omega
      have b5 : x = x % p + P * (x / p / 2) := by rw [e3, Int.mul_assoc, Int.mul_left_comm, ← b4]; rw [Int.mul_comm] at b1; rw [Int.mul_comm]; omega
      rw [b5, Int.add_mul_emod_self_left, Int.emod_eq_of_lt b3 (by omega)]; exact b2
    have a4 : x / P < q := Int.ediv_lt_of_lt_mul (by omega) (by rw [Int.mul_comm]; omega)
    have a5 := Int.mul_le_mul_of_nonneg_left (show x / P + 1 ≤ q by omega) (show 0 ≤ P by omega)
    rw [Int.mul_add] at a5
    omega
  · rw [natV_set _ hi, ← digV_lt hi, ep]
    rw [show digV l (i / 32).toNat + pw (i % 32) - digV l (i / 32).toNat = pw (i % 32) by omega]

/-- The quotient's bits from the k-th on, and what is left. -/
structure PartsAt (V d : Int) (N : Nat) (k : Int) (o : List Int) (R : Int) : Prop where
  len : o.length = N
  lim : ∀ x ∈ o, Limb x
  q : natV o = V / pw k / d * pw k
  r : R = V / pw k % d
theorem halves (V k : Int) (hk : 0 ≤ k) : V / pw k = 2 * (V / pw (k + 1)) + V / pw k % 2 := by
  rw [pw_succ k hk, Int.mul_comm 2 (pw k), ← Int.ediv_ediv_of_nonneg (Int.le_of_lt (pw_pos k))]; omega
theorem b2i_bit (V k : Int) : b2i (bitV V k) = V / pw k % 2 := by
  unfold b2i bitV
  by_cases c : V / pw k % 2 = 1
  · simp [c]
  · simp [c]; omega
theorem parts_bit {V d k : Int} {N : Nat} {o : List Int} {R : Int} (hk : 0 ≤ k) (h : PartsAt V d N (k + 1) o R) : natV o / pw k % 2 = 0 := by
  rw [h.q, pw_succ k hk, ← Int.mul_assoc, Int.mul_comm _ 2, Int.mul_ediv_cancel _ (Int.ne_of_gt (pw_pos k))]
  omega
theorem parts_keep {V d k : Int} {N : Nat} {o : List Int} {R S : Int} (hV : 0 ≤ V) (hd : 0 < d) (hk : 0 ≤ k) (h : PartsAt V d N (k + 1) o R) (hS : S = 2 * R + V / pw k % 2) (hlt : S < d) : PartsAt V d N k o S := by
  obtain ⟨h1, h2, h3, h4⟩ := h
  have e := halves V k hk
  have a := Int.mul_ediv_add_emod (V / pw (k + 1)) d
  rw [← h4] at a
  have r0 : 0 ≤ R := by rw [h4]; exact Int.emod_nonneg _ (by omega)
  have v0 : 0 ≤ V / pw k := Int.ediv_nonneg hV (Int.le_of_lt (pw_pos k))
  have e2 : V / pw k = S + d * (2 * (V / pw (k + 1) / d)) := by rw [Int.mul_left_comm]; omega
  have ep := pw_succ k hk
  generalize V / pw (k + 1) = Q at *
  refine ⟨h1, h2, ?_, ?_⟩
  · rw [h3, ep, e2, Int.add_mul_ediv_left _ _ (by omega), Int.ediv_eq_zero_of_lt (by omega) hlt, Int.zero_add, ← Int.mul_assoc, Int.mul_comm _ 2]
  · rw [e2, Int.add_mul_emod_self_left, Int.emod_eq_of_lt (by omega) hlt]
theorem parts_set {V d k : Int} {N : Nat} {o : List Int} {R S x : Int} (hV : 0 ≤ V) (hd : 0 < d) (hk : 0 ≤ k) (h : PartsAt V d N (k + 1) o R) (hS : S = 2 * R + V / pw k % 2) (hge : d ≤ S)
    (hx : Limb x) (hset : natV (o.set (k / 32).toNat x) = natV o + pw k) : PartsAt V d N k (o.set (k / 32).toNat x) (S - d) := by
  obtain ⟨h1, h2, h3, h4⟩ := h
  have e := halves V k hk
  have a := Int.mul_ediv_add_emod (V / pw (k + 1)) d
  rw [← h4] at a
  have r0 : 0 ≤ R := by rw [h4]; exact Int.emod_nonneg _ (by omega)
  have r1 : R < d := by rw [h4]; exact Int.emod_lt_of_pos _ hd
  have v0 : 0 ≤ V / pw k := Int.ediv_nonneg hV (Int.le_of_lt (pw_pos k))
  have lt : S - d < d := by omega
  have e2 : V / pw k = (S - d) + d * (2 * (V / pw (k + 1) / d) + 1) := by rw [Int.mul_add, Int.mul_left_comm]; omega
  have ep := pw_succ k hk
  generalize V / pw (k + 1) = Q at *
  refine ⟨by rw [List.length_set, h1], limbs_set h2 _ hx, ?_, ?_⟩
  · rw [hset, h3, ep, e2, Int.add_mul_ediv_left _ _ (by omega), Int.ediv_eq_zero_of_lt (by omega) lt, Int.zero_add, ← Int.mul_assoc, Int.mul_comm _ 2, Int.add_mul, Int.one_mul]
  · rw [e2, Int.add_mul_emod_self_left, Int.emod_eq_of_lt (by omega) lt]
theorem parts_start {V d : Int} {N : Nat} (hV : 0 ≤ V) (hlt : V < pw (32 * (N : Int))) : PartsAt V d N (32 * (N : Int)) (List.replicate N 0) 0 :=
  ⟨by simp, limbs_rep _, by rw [natV_rep, Int.ediv_eq_zero_of_lt hV hlt, Int.zero_ediv, Int.zero_mul], by rw [Int.ediv_eq_zero_of_lt hV hlt, Int.zero_emod]⟩

theorem row_below {w w' : World} {base g N : Nat} {xs : List Value} (h : w.ownsRow base 62 1 (.slice (some ⟨g, 0, none⟩) N N) N xs) (hb : Below w.heap.size w w') : w'.ownsRow base 62 1 (.slice (some ⟨g, 0, none⟩) N N) N xs := by
  have hlt := (h.lt _ rfl).2
  rcases h.2 with ⟨h', _⟩ | ⟨g', cap, cur, h', h1, h2, h3⟩
  · cases h'
  · obtain rfl : g' = g := by injection h' with e; injection e with e; injection e with e; exact e.symm
    exact ⟨h.1, .inr ⟨g', cap, cur, h', h1, (hb.block g' hlt).trans h2, h3⟩⟩
theorem row_sl {w : World} {base g N : Nat} {o : List Int} (h : w.ownsRow base 62 1 (.slice (some ⟨g, 0, none⟩) N N) N (o.map (Value.int .u32))) (hl : ∀ x ∈ o, Limb x) : Sl w w.heap.size (some ⟨g, 0, none⟩) N N o := by
  obtain ⟨A, c, e, hs, _⟩ := Sl.of_own h hl
  injection e with e1 e2 e3
  subst e1 e3
  exact hs
theorem Sl.far {w : World} {B g j : Nat} {A : Option Addr} {n c : Nat} {l : List Int} {u : Value} (h : Sl w B A n c l) (hf : Fresh (g + 1) A) : Sl (w.setCell ⟨g, j, none⟩ u) B A n c l := by
  refine ⟨h.len, h.cap, h.max, h.lim, h.nil, ?_⟩
  rcases h.rd with h0 | ⟨b, o, hA, hb, hc⟩
  · exact .inl h0
  · refine .inr ⟨b, o, hA, hb, fun i hi => ?_⟩
    have hbl : g + 1 ≤ b := hf _ hA
    rw [World.cell?_setCell_other _ _ _ _ (fun e => by have := congrArg Addr.block e; simp at this; omega)]
    exact hc i hi

theorem Sl.on' {w w' : World} {A : Option Addr} {n c : Nat} {l : List Int} (h : Sl w w.heap.size A n c l) (hb : Below w.heap.size w w') : Sl w' w'.heap.size A n c l := h.on hb
/-- What Parts answers: two naturals. -/
def PartsPost (x y : Int) (w : World) (e : Ending) (w' : World) : Prop :=
  ∃ A n c l A' n' c' l', e = .returned (.tuple #[.slice A n c, .slice A' n' c']) ∧ Sl w' w'.heap.size A n c l ∧ Norm l ∧ natV l = x ∧ Sl w' w'.heap.size A' n' c' l' ∧ Norm l' ∧ natV l' = y ∧ Below w.heap.size w w'

set_option maxHeartbeats 4000000 in
theorem rparts_any (A B : Option Addr) (n m c d : Nat) (a b : List Int) (w : World) (h : Sl w w.heap.size A n c a) (h' : Sl w w.heap.size B m d b) (hn : n ≤ 1000000) (hm : m ≤ 1000000) (hb0 : 0 < natV b) :
    Calls Try.prog 45 #[.slice A n c, .slice B m d] w (PartsPost (natV a / natV b) (natV a % natV b) w) := by
  have HA := Lib.hid h; have HB := Lib.hid h'
  have V0 := Lib.hid (natV_nonneg h.lim)
  have D0 := Lib.hid hb0
  have Dm : Hid (2 * natV b + 1 ≤ pw (32 * ((m + 1 : Nat) : Int))) := by
    have h1 := natV_lt h'.lim
    have h2 := pw32 m
    have h3 := pw_pos (32 * (m : Int))
    rw [h'.len] at h1
    unfold Hid; omega
  have s0 := Lib.hid (parts_start (V := natV a) (d := natV b) (N := n) (natV_nonneg h.lim) (by rw [← h.len]; exact natV_lt h.lim))
  clear h h' hb0
  go_enter Try.func45, Try.ntmps45
  go_wp2_with (at_make; go_loud (refine wpList_mk rfl _ _ rfl w.heap.size _ _ n rfl rfl rfl rfl (by omega) (Nat.le_refl _) ?_); intro w1 hown1 hb1 hz1)
  go_loopw [7, 8] (fun v i wr => ∃ (k : Int) (o : List Int) (A2 : Option Addr) (n2 c2 : Nat) (l2 : List Int), v = .slice A2 n2 c2 ∧ i = .int .i64 (k - 1) ∧ 0 ≤ k ∧ k ≤ 32 * (n : Int) ∧ wr.ownsRow w.heap.size 62 1 (.slice (some ⟨w.heap.size, 0, none⟩) n n) n (o.map (Value.int .u32)) ∧ Below w.heap.size w wr ∧ w.heap.size < wr.heap.size ∧
    Sl wr wr.heap.size A2 n2 c2 l2 ∧ Norm l2 ∧ Fresh (w.heap.size + 1) A2 ∧ PartsAt (natV a) (natV b) n k o (natV l2)) (fun _ i _ => (intOf i + 1).toNat)
  case atStart => exact ⟨32 * (n : Int), _, none, 0, 0, [], rfl, by go_num, by omega, by omega, hown1, hb1, hz1, Sl.nil_ _ _, norm_nil, (fun _ e => by cases e), s0.out⟩
  case round =>
    obtain ⟨k, o, A2, n2, c2, l2, rfl, rfl, k0, k1, hown, hB, hz, hs2, hn2, fr2, hP⟩ := hrel
    clear hown1 hb1 hz1 s0
    have bn : (n : Int) ≤ 1000000 := by omega
    by_cases hk : 1 ≤ k
    · obtain ⟨j, hj⟩ : ∃ j, k - 1 = j := ⟨_, rfl⟩
      have ek : k = j + 1 := by omega
      subst ek
      have j0 : 0 ≤ j := by omega
      have j1 : j < 32 * (n : Int) := by omega
      have l2m : n2 ≤ m + 1 := by
        rw [← hs2.len]
        refine norm_len hs2.lim hn2 ?_
        have := Dm.out; have r1 := Int.emod_lt_of_pos (natV a / pw (j + 1)) D0.out; rw [← hP.r] at r1; have := D0.out; omega
      have CB := Lib.hid (bit_any A n c a j wr (HA.out.on' hB) j0 (by omega))
      have CT := Lib.hid (fun mo => rtwice_any A2 n2 c2 l2 mo wr hs2 (by omega))
      have SB := Lib.hid (b2i_bit (natV a) j)
      have Hown := Lib.hid hown
      have hP := Lib.hid hP
      clear hown hs2 hn2 fr2 hk k0
      generalize bitV (natV a) j = bb at *
      have wj : j + 1 - 1 = j := by omega
      simp only [wj]
      clear wj hj
      go_wp2_with fail
      refine CB.out.mono ?_
      rintro e w' ⟨rfl, rfl⟩
      go_wp2_with fail
      refine (CT.out bb).mono ?_
      rintro e w2 ⟨A3, n3, c3, l3, rfl, hs3, hn3, hv3, fr3, hb3⟩
      have hS : Hid (natV l3 = 2 * natV l2 + natV a / pw j % 2) := by unfold Hid; rw [hv3, SB.out]
      have n3m : n3 ≤ m + 1 := by
        rw [← hs3.len]
        refine norm_len hs3.lim hn3 ?_
        have hr := hP.out.r
        have r1 := Int.emod_lt_of_pos (natV a / pw (j + 1)) D0.out
        rw [← hr] at r1
        have := Dm.out; rw [hS.out]; omega
      have hown2 := row_below Hown.out hb3
      have hB2 : Below w.heap.size w w2 := hB.trans (hb3.mono hB.size)
      have hz2 : w.heap.size < w2.heap.size := Nat.lt_of_lt_of_le hz hb3.size
      have fr3 : Fresh (w.heap.size + 1) A3 := fr3.mono hz
      clear hv3 hb3 Hown hB CB CT SB hz
      have Hown := Lib.hid hown2; clear hown2
      go_wp2_with fail
      refine (rcmp_any A3 B n3 m c3 d l3 b w2 hs3 (HB.out.on' hB2) (by omega) (by omega)).mono ?_
      rintro e w3 ⟨rfl, hb4⟩
      have hs3 := hs3.on hb4
      have hown3 := row_below Hown.out hb4
      have hB3 : Below w.heap.size w w3 := hB2.trans (hb4.mono hB2.size)
      have hz3 : w.heap.size < w3.heap.size := Nat.lt_of_lt_of_le hz2 hb4.size
      clear Hown hb4 hB2 hz2
      have Hown := Lib.hid hown3; clear hown3
      by_cases cc : natV l3 < natV b
      · have e1 : cmpI (natV l3) (natV b) = -1 := by unfold cmpI; rw [if_pos cc]
        have fin := Lib.hid (parts_keep V0.out D0.out j0 hP.out hS.out cc)
        rw [e1]
        clear e1 cc hP hS
        go_wp2
        go_roundw
        case rel => exact ⟨j, o, A3, n3, c3, l3, rfl, rfl, j0, by omega, Hown.out, hB3, hz3, hs3, hn3, fr3, fin.out⟩
        case measure => simp [intOf]; omega
      · have e1 : Hid (0 ≤ cmpI (natV l3) (natV b)) := by unfold cmpI Hid; rw [if_neg cc]; split <;> decide
        obtain ⟨r, hr⟩ : ∃ r, cmpI (natV l3) (natV b) = r := ⟨_, rfl⟩
        rw [hr] at e1
        rw [hr]
        have e1 := e1.out
        clear hr
        have CL := Lib.hid (rless_any A3 B n3 m c3 d l3 b w3 hs3 (HB.out.on' hB3) (by omega) (by omega) (by omega))
        have cc2 : Hid (natV b ≤ natV l3) := by unfold Hid; omega
        clear hs3
        go_wp2_with fail
        refine CL.out.mono ?_
        rintro e w4 ⟨A5, n5, c5, l5, rfl, hs5, hn5, hv5, fr5, hb5⟩
        have hv5 := Lib.hid hv5
        have hown4 := row_below Hown.out hb5
        have hB4 : Below w.heap.size w w4 := hB3.trans (hb5.mono hB3.size)
        have hz4 : w.heap.size < w4.heap.size := Nat.lt_of_lt_of_le hz3 hb5.size
        have fr5 : Fresh (w.heap.size + 1) A5 := fr5.mono hz3
        clear Hown hb5 hB3 hz3 CL
        have Hown := Lib.hid hown4
        have ql : (j / 32).toNat < n := by omega
        have cell := row_cell hown4 (j / 32).toNat ql
        have fz : World.frozen? _ ⟨w.heap.size, (j / 32).toNat, none⟩ = false := hown4.frozenAt (j / 32).toNat
        obtain ⟨b1, b2, b3⟩ := natV_setbit hP.out.lim j0 (by rw [hP.out.len]; exact ql) (parts_bit j0 hP.out)
        have fin := Lib.hid (parts_set V0.out D0.out j0 hP.out hS.out cc2.out b2 b3)
        have Hset := Lib.hid (row_set hown4 (j / 32).toNat (digV o (j / 32).toNat + pw (j % 32)))
        have B1 := Lib.hid b1
        obtain ⟨q, hq⟩ : ∃ q : Nat, (j / 32).toNat = q := ⟨_, rfl⟩
        have hq2 : j / 32 = (q : Int) := by omega
        rw [hq] at cell fz b1 b2 Hset B1 fin
        rw [hq] at ql
        have ql2 : (q : Int) < (n : Int) := by omega
        have hr0 : 0 ≤ j % 32 := by omega
        have hr1 : j % 32 < 32 := by omega
        have hp : (2 : Int) ^ (j % 32).toNat = pw (j % 32) := pw_eq _
        have hpl : pw (j % 32) < 4294967296 := by
          have := pw_mono (a := j % 32 + 1) (b := 32) (by omega) (by omega)
          have := pw_succ (j % 32) (by omega)
          rw [show pw 32 = 4294967296 from rfl] at *; omega
        have hp0 := pw_pos (j % 32)
        generalize pw (j % 32) = P at *
        generalize digV o q = z at *
        clear hown4 b1 b2 b3 hq
        go_wp2
        go_roundw
        case rel => exact ⟨j, _, A5, n5, c5, l5, rfl, rfl, j0, by omega, by rw [B1.out]; exact Hset.out, hB4.setCell (Nat.le_refl _) _, by simpa [World.setCell] using hz4, (hs5.far fr5).more (by simp [World.setCell]), hn5, fr5, by rw [hv5.out]; exact fin.out⟩
        case measure => simp [intOf]; omega
    · have ek : k = 0 := by omega
      subst ek
      obtain ⟨p1, p2, p3, p4⟩ := hP
      rw [show pw 0 = 1 from rfl, Int.ediv_one, Int.mul_one] at p3
      rw [show pw 0 = 1 from rfl, Int.ediv_one] at p4
      have n2m : n2 ≤ m + 1 := by
        rw [← hs2.len]
        refine norm_len hs2.lim hn2 ?_
        have := Dm.out; have r1 := Int.emod_lt_of_pos (natV a) D0.out; rw [← p4] at r1; have := D0.out; omega
      have HT1 := Lib.hid (rtrim_any _ n n o wr (row_sl hown p2) (by omega))
      have p4 := Lib.hid p4; have p3 := Lib.hid p3
      have hs2h := Lib.hid hs2
      clear hown hs2 HA HB
      go_wp2_with fail
      refine HT1.out.mono ?_
      rintro e w2 ⟨A3, n3, c3, l3, rfl, hs3, hn3, hv3, fr3, hb3⟩
      have hb2 := Lib.hid (rtrim_any A2 n2 c2 l2 w2 (hs2h.out.on hb3) (by omega))
      have hv3 := Lib.hid hv3
      go_wp2_with fail
      refine hb2.out.mono ?_
      rintro e w3 ⟨A4, n4, c4, l4, rfl, hs4, hn4, hv4, fr4, hb4⟩
      have fin : Hid (PartsPost (natV a / natV b) (natV a % natV b) w (.returned (.tuple #[.slice A3 n3 c3, .slice A4 n4 c4])) w3) :=
        ⟨A3, n3, c3, l3, A4, n4, c4, l4, rfl, hs3.on hb4, hn3, by rw [hv3.out, p3.out], hs4, hn4, by rw [hv4, p4.out], hB.trans ((hb3.mono hB.size).trans (hb4.mono (Nat.le_trans hB.size hb3.size)))⟩
      clear hs3 hs4 hn3 hn4 hv4 hb3 hb4 fr3 fr4 hB hs2h hb2
      go_wp2
      go_ret2
      exact fin.out
end Go.Proofs.Ytomeidbigofnaaa
