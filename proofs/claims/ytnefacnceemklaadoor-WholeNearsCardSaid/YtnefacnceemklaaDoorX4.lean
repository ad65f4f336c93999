import Derived.Test.YtnefacnceemklaaDoorX3
import Derived.Test.YtnefacnceemklaaDoorX0
import Derived.Test.YtnefacnceemklaaDoorX2
/-
  The document's answers to layer 2 (tabardref2): Nat, Part, End, Add, Sub; the law's own nat, is.
-/
namespace Go.Proofs.YtnefacnceemklaaDoor
open Go.RowKit Go.Shelf

theorem Sl.drewN {w : World} {B : Nat} {A : Option Addr} {n c : Nat} {l : List Int} (h : Sl w B A n c l) (k : Nat) : Sl (w.drewN k) B A n c l := h.keep fun _ _ _ => rfl
/-- A contract that leaves the world alone, at a quiet region's call. -/
theorem qcall {P : Program} {f : FuncId} {args : Array Value} {w : World} {n : Nat} {v : Value} (h : Calls P f args (w.drewN n) fun e w' => e = .returned v ∧ w.drewN n = w') :
    Calls P f args (w.drewN n) fun e w'' => e = .returned v ∧ ∃ m, w'' = w.drewN m := h.mono fun _ _ ⟨he, hm⟩ => ⟨he, n, hm.symm⟩
theorem NatPost.mk {A : Option Addr} {n c : Nat} {l : List Int} {v : Int} {w w' : World} (hs : Sl w' w'.heap.size A n c l) (hn : Norm l) (hv : natV l = v) (fr : Fresh w.heap.size A) (hb : Below w.heap.size w w') : NatPost v w (.returned (.slice A n c)) w' := ⟨A, n, c, l, rfl, hs, hn, hv, fr, hb⟩

/-- A literal of limbs is a slice of the call's own. -/
theorem lit_own (w : World) (l : List Int) (n : Nat) (hn : l.length = n) (hm : n ≤ 1000) : (w.alloc (.cells (l.map (Value.int .u32)).toArray 84)).ownsRow w.heap.size 84 1 (.slice (some ⟨w.heap.size, 0, none⟩) n n) n (l.map (Value.int .u32)) := by
  have := World.ownsRow_lit (base := w.heap.size) (e := 84) (size := 1) w (l.map (Value.int .u32)).toArray n (Nat.le_refl _) (by unfold maxLen; omega) (by simpa using hn)
  simpa using this
theorem below_new (w : World) (o : Obj) : Below w.heap.size w (w.alloc o) := (Below.refl _ _).alloc (Nat.le_refl _) _

/-- 64 bits of a number. -/
def partI (v : Int) (i : Nat) : Int := v / pw (64 * (i : Int)) % 18446744073709551616
theorem part_dig {l : List Int} (hl : ∀ x ∈ l, Limb x) (i : Nat) : partI (natV l) i = digV l (2 * i + 1) * 4294967296 + digV l (2 * i) := by
  have d0 := natV_dig hl (2 * i)
  have d1 := natV_dig hl (2 * i + 1)
  rw [pw32, show 32 * ((2 * i : Nat) : Int) = 64 * (i : Int) by omega, Int.mul_comm, ← Int.ediv_ediv_of_nonneg (Int.le_of_lt (pw_pos _))] at d1
  rw [show 32 * ((2 * i : Nat) : Int) = 64 * (i : Int) by omega] at d0
  unfold partI
  generalize natV l / pw (64 * (i : Int)) = q at *
  omega

theorem val_nonneg {h l : Int} (h1 : Word h) (h2 : Word l) : 0 ≤ val h l ∧ val h l < 340282366920938463463374607431768211456 := by
  unfold val Word at *; omega
theorem part_val1 (h l : Int) (h1 : Word h) (h2 : Word l) : partI (val h l) 1 = h := by
  unfold partI val Word at *; rw [show pw (64 * ((1 : Nat) : Int)) = 18446744073709551616 from rfl]; omega
theorem part_val0 (h l : Int) (h2 : Word l) : partI (val h l) 0 = l := by
  unfold partI val Word at *; rw [show pw (64 * ((0 : Nat) : Int)) = 1 from rfl]; omega

/-- The law's own 'is', where it is so. -/
def TrueBelow (w : World) (e : Ending) (w' : World) : Prop := e = .returned (.bool true) ∧ Below w.heap.size w w'
/-- A natural and a bool. -/
def NatBPost (P : Int → Bool → Prop) (w : World) (e : Ending) (w' : World) : Prop :=
  ∃ A n c l o, e = .returned (.tuple #[.slice A n c, .bool o]) ∧ Sl w' w'.heap.size A n c l ∧ Norm l ∧ P (natV l) o ∧ Below w.heap.size w w'
theorem small_len {l : List Int} (hl : ∀ x ∈ l, Limb x) (hn : Norm l) (h : natV l < 115792089237316195423570985008687907853269984665640564039457584007913129639936) : l.length ≤ 8 :=
  norm_len hl hn (by rw [show pw (32 * ((8 : Nat) : Int)) = 115792089237316195423570985008687907853269984665640564039457584007913129639936 from rfl]; exact h)
theorem Sl.small {w : World} {B : Nat} {A : Option Addr} {n c : Nat} {l : List Int} (h : Sl w B A n c l) (hn : Norm l) (hv : natV l < 115792089237316195423570985008687907853269984665640564039457584007913129639936) : n ≤ 8 := by
  rw [← h.len]; exact small_len h.lim hn hv
theorem radd_mk {x y : Int} {w w' : World} {A : Option Addr} {n c : Nat} {l : List Int} {o : Bool} (hs : Sl w' w'.heap.size A n c l) (hn : Norm l) (hb : Below w.heap.size w w')
    (h : (o = true ∧ natV l + 340282366920938463463374607431768211456 = x + y) ∨ (o = false ∧ natV l = x + y ∧ natV l < 340282366920938463463374607431768211456)) :
    NatBPost (fun v o => (o = true ∧ v + 340282366920938463463374607431768211456 = x + y) ∨ (o = false ∧ v = x + y ∧ v < 340282366920938463463374607431768211456)) w (.returned (.tuple #[.slice A n c, .bool o])) w' := ⟨A, n, c, l, o, rfl, hs, hn, h, hb⟩

theorem rsub_mk {x y : Int} {w w' : World} {A : Option Addr} {n c : Nat} {l : List Int} {o : Bool} (hs : Sl w' w'.heap.size A n c l) (hn : Norm l) (hb : Below w.heap.size w w')
    (h : (o = true ∧ natV l = x - y + 340282366920938463463374607431768211456 ∧ x < y) ∨ (o = false ∧ natV l = x - y ∧ y ≤ x)) :
    NatBPost (fun v o => (o = true ∧ v = x - y + 340282366920938463463374607431768211456 ∧ x < y) ∨ (o = false ∧ v = x - y ∧ y ≤ x)) w (.returned (.tuple #[.slice A n c, .bool o])) w' := ⟨A, n, c, l, o, rfl, hs, hn, h, hb⟩
end Go.Proofs.YtnefacnceemklaaDoor

/-
  The document's naturals: Parts, bit by bit.
-/
namespace Go.Proofs.YtnefacnceemklaaDoor
open Go.RowKit Go.Shelf

theorem nat_or_bit (a r : Nat) (h : a / 2 ^ r % 2 = 0) : a ||| 2 ^ r = a + 2 ^ r := by
  have e : a = 2 ^ (r + 1) * (a / 2 ^ (r + 1)) + a % 2 ^ (r + 1) := (Nat.div_add_mod a (2 ^ (r + 1))).symm
  have lt : a % 2 ^ (r + 1) < 2 ^ r := by
    have h1 : a % 2 ^ (r + 1) / 2 ^ r = 0 := by
      rw [Nat.pow_succ, Nat.mod_mul_right_div_self]; exact h
    exact (Nat.div_eq_zero_iff_lt (Nat.two_pow_pos r)).1 h1
  generalize a / 2 ^ (r + 1) = A at *
  generalize a % 2 ^ (r + 1) = B at *
  subst e
  have lt2 : B + 2 ^ r < 2 ^ (r + 1) := by rw [Nat.pow_succ]; omega
  have e1 : B ||| 2 ^ r = B + 2 ^ r := by
    have := Nat.two_pow_add_eq_or_of_lt lt 1
    rw [Nat.mul_one] at this
    rw [Nat.or_comm, ← this, Nat.add_comm]
  have e3 : (2 ^ (r + 1) * A + B) ||| 2 ^ r = 2 ^ (r + 1) * A + (B + 2 ^ r) := by
    rw [Nat.two_pow_add_eq_or_of_lt (show B < 2 ^ (r + 1) by omega), Nat.or_assoc, e1, ← Nat.two_pow_add_eq_or_of_lt lt2]
  rw [e3]; omega
theorem u32_or_bit {a r : Int} (ha : Limb a) (h0 : 0 ≤ r) (h1 : r < 32) (h : a / pw r % 2 = 0) : bits .or .u32 a (pw r) = a + pw r := by
  obtain ⟨n, rfl⟩ := Int.eq_ofNat_of_zero_le ha.1
  obtain ⟨k, rfl⟩ := Int.eq_ofNat_of_zero_le h0
  have hp : pw (k : Int) = ((2 ^ k : Nat) : Int) := rfl
  have hb : (2 : Nat) ^ k < 4294967296 := by
    have := Nat.pow_lt_pow_right (a := 2) (by decide) (show k < 32 by omega)
    omega
  have hn : n < 4294967296 := by have := ha.2; omega
  rw [hp] at h ⊢
  have h' : n / 2 ^ k % 2 = 0 := by exact_mod_cast h
  rw [u32_or_nat n (2 ^ k) hn hb, nat_or_bit n k h']
  push_cast; rfl
/-- A bit that was 0 is set. -/
theorem natV_setbit {l : List Int} (hl : ∀ x ∈ l, Limb x) {i : Int} (h0 : 0 ≤ i) (hi : (i / 32).toNat < l.length) (hb : natV l / pw i % 2 = 0) :
    bits .or .u32 (digV l (i / 32).toNat) (pw (i % 32)) = digV l (i / 32).toNat + pw (i % 32) ∧ Limb (digV l (i / 32).toNat + pw (i % 32)) ∧ natV (l.set (i / 32).toNat (digV l (i / 32).toNat + pw (i % 32))) = natV l + pw i := by
  have hd := digV_limb hl (i / 32).toNat
  have hbit := bit_dig hl i h0
  have z : digV l (i / 32).toNat / pw (i % 32) % 2 = 0 := by
    unfold bitV at hbit
    have h1 : digV l (i / 32).toNat / pw (i % 32) % 2 ≠ 1 := fun e => by
      rw [e, hb] at hbit; simp at hbit
    omega
  have ep : pw i = pw (32 * ((i / 32).toNat : Int)) * pw (i % 32) := by rw [← pw_add _ _ (by omega) (by omega)]; congr 1; omega
  have e1 := u32_or_bit hd (by omega) (by omega) z
  have e2 : (4294967296 : Int) = pw (i % 32 + 1) * pw (31 - i % 32) := by rw [← pw_add _ _ (by omega) (by omega), show i % 32 + 1 + (31 - i % 32) = 32 by omega]; rfl
  have e3 := pw_succ (i % 32) (by omega)
  refine ⟨e1, ?_, ?_⟩
  · have hp := pw_pos (i % 32)
    have hq := pw_pos (31 - i % 32)
    unfold Limb at *
    generalize digV l (i / 32).toNat = x at *
    generalize pw (i % 32) = p at *
    generalize pw (i % 32 + 1) = P at *
    generalize pw (31 - i % 32) = q at *
    refine ⟨by omega, ?_⟩
    -- x + p ≤ P * (x / P) + P - 1 + ... : x's bit at p is 0
    have a1 := Int.mul_ediv_add_emod x P
    have a2 := Int.emod_lt_of_pos x (show 0 < P by omega)
    have a3 : x % P < p := by
      have b1 := Int.mul_ediv_add_emod x p
      have b2 := Int.emod_lt_of_pos x hp
      have b3 := Int.emod_nonneg x (show p ≠ 0 by omega)
      have b4 : x / p = 2 * (x / p / 2) := by omega
      have b5 : x = x % p + P * (x / p / 2) := by rw [e3, Int.mul_assoc, Int.mul_left_comm, ← b4]; rw [Int.mul_comm] at b1; rw [Int.mul_comm]; omega
      rw [b5, Int.add_mul_emod_self_left, Int.emod_eq_of_lt b3 (by omega)]; exact b2
    have a4 : x / P < q := Int.ediv_lt_of_lt_mul (by omega) (by rw [Int.mul_comm]; omega)
    have a5 := Int.mul_le_mul_of_nonneg_left (show x / P + 1 ≤ q by omega) (show 0 ≤ P by omega)
    rw [Int.mul_add] at a5
    omega
  · rw [natV_set _ hi, ← digV_lt hi, ep]
    rw [show digV l (i / 32).toNat + pw (i % 32) - digV l (i / 32).toNat = pw (i % 32) by omega]

/-- The quotient's bits from the k-th on, and what is left. -/
structure PartsAt (V d : Int) (N : Nat) (k : Int) (o : List Int) (R : Int) : Prop where
  len : o.length = N
  lim : ∀ x ∈ o, Limb x
  q : natV o = V / pw k / d * pw k
  r : R = V / pw k % d
theorem halves (V k : Int) (hk : 0 ≤ k) : V / pw k = 2 * (V / pw (k + 1)) + V / pw k % 2 := by
  rw [pw_succ k hk, Int.mul_comm 2 (pw k), ← Int.ediv_ediv_of_nonneg (Int.le_of_lt (pw_pos k))]; omega
theorem b2i_bit (V k : Int) : b2i (bitV V k) = V / pw k % 2 := by
  unfold b2i bitV
  by_cases c : V / pw k % 2 = 1
  · simp [c]
  · simp [c]; omega
theorem parts_bit {V d k : Int} {N : Nat} {o : List Int} {R : Int} (hk : 0 ≤ k) (h : PartsAt V d N (k + 1) o R) : natV o / pw k % 2 = 0 := by
  rw [h.q, pw_succ k hk, ← Int.mul_assoc, Int.mul_comm _ 2, Int.mul_ediv_cancel _ (Int.ne_of_gt (pw_pos k))]
  omega
theorem parts_keep {V d k : Int} {N : Nat} {o : List Int} {R S : Int} (hV : 0 ≤ V) (hd : 0 < d) (hk : 0 ≤ k) (h : PartsAt V d N (k + 1) o R) (hS : S = 2 * R + V / pw k % 2) (hlt : S < d) : PartsAt V d N k o S := by
  obtain ⟨h1, h2, h3, h4⟩ := h
  have e := halves V k hk
  have a := Int.mul_ediv_add_emod (V / pw (k + 1)) d
  rw [← h4] at a
  have r0 : 0 ≤ R := by rw [h4]; exact Int.emod_nonneg _ (by omega)
  have v0 : 0 ≤ V / pw k := Int.ediv_nonneg hV (Int.le_of_lt (pw_pos k))
  have e2 : V / pw k = S + d * (2 * (V / pw (k + 1) / d)) := by rw [Int.mul_left_comm]; omega
  have ep := pw_succ k hk
  generalize V / pw (k + 1) = Q at *
  refine ⟨h1, h2, ?_, ?_⟩
  · rw [h3, ep, e2, Int.add_mul_ediv_left _ _ (by omega), Int.ediv_eq_zero_of_lt (by omega) hlt, Int.zero_add, ← Int.mul_assoc, Int.mul_comm _ 2]
  · rw [e2, Int.add_mul_emod_self_left, Int.emod_eq_of_lt (by omega) hlt]
theorem parts_set {V d k : Int} {N : Nat} {o : List Int} {R S x : Int} (hV : 0 ≤ V) (hd : 0 < d) (hk : 0 ≤ k) (h : PartsAt V d N (k + 1) o R) (hS : S = 2 * R + V / pw k % 2) (hge : d ≤ S)
    (hx : Limb x) (hset : natV (o.set (k / 32).toNat x) = natV o + pw k) : PartsAt V d N k (o.set (k / 32).toNat x) (S - d) := by
  obtain ⟨h1, h2, h3, h4⟩ := h
  have e := halves V k hk
  have a := Int.mul_ediv_add_emod (V / pw (k + 1)) d
  rw [← h4] at a
  have r0 : 0 ≤ R := by rw [h4]; exact Int.emod_nonneg _ (by omega)
  have r1 : R < d := by rw [h4]; exact Int.emod_lt_of_pos _ hd
  have v0 : 0 ≤ V / pw k := Int.ediv_nonneg hV (Int.le_of_lt (pw_pos k))
  have lt : S - d < d := by omega
  have e2 : V / pw k = (S - d) + d * (2 * (V / pw (k + 1) / d) + 1) := by rw [Int.mul_add, Int.mul_left_comm]; omega
  have ep := pw_succ k hk
  generalize V / pw (k + 1) = Q at *
  refine ⟨by rw [List.length_set, h1], limbs_set h2 _ hx, ?_, ?_⟩
  · rw [hset, h3, ep, e2, Int.add_mul_ediv_left _ _ (by omega), Int.ediv_eq_zero_of_lt (by omega) lt, Int.zero_add, ← Int.mul_assoc, Int.mul_comm _ 2, Int.add_mul, Int.one_mul]
  · rw [e2, Int.add_mul_emod_self_left, Int.emod_eq_of_lt (by omega) lt]
theorem parts_start {V d : Int} {N : Nat} (hV : 0 ≤ V) (hlt : V < pw (32 * (N : Int))) : PartsAt V d N (32 * (N : Int)) (List.replicate N 0) 0 :=
  ⟨by simp, limbs_rep _, by rw [natV_rep, Int.ediv_eq_zero_of_lt hV hlt, Int.zero_ediv, Int.zero_mul], by rw [Int.ediv_eq_zero_of_lt hV hlt, Int.zero_emod]⟩

theorem row_below {w w' : World} {base g N : Nat} {xs : List Value} (h : w.ownsRow base 84 1 (.slice (some ⟨g, 0, none⟩) N N) N xs) (hb : Below w.heap.size w w') : w'.ownsRow base 84 1 (.slice (some ⟨g, 0, none⟩) N N) N xs := by
  have hlt := (h.lt _ rfl).2
  rcases h.2 with ⟨h', _⟩ | ⟨g', cap, cur, h', h1, h2, h3⟩
  · cases h'
  · obtain rfl : g' = g := by injection h' with e; injection e with e; injection e with e; exact e.symm
    exact ⟨h.1, .inr ⟨g', cap, cur, h', h1, (hb.block g' hlt).trans h2, h3⟩⟩
theorem row_sl {w : World} {base g N : Nat} {o : List Int} (h : w.ownsRow base 84 1 (.slice (some ⟨g, 0, none⟩) N N) N (o.map (Value.int .u32))) (hl : ∀ x ∈ o, Limb x) : Sl w w.heap.size (some ⟨g, 0, none⟩) N N o := by
  obtain ⟨A, c, e, hs, _⟩ := Sl.of_own h hl
  injection e with e1 e2 e3
  subst e1 e3
  exact hs
theorem Sl.far {w : World} {B g j : Nat} {A : Option Addr} {n c : Nat} {l : List Int} {u : Value} (h : Sl w B A n c l) (hf : Fresh (g + 1) A) : Sl (w.setCell ⟨g, j, none⟩ u) B A n c l := by
  refine ⟨h.len, h.cap, h.max, h.lim, h.nil, ?_⟩
  rcases h.rd with h0 | ⟨b, o, hA, hb, hc⟩
  · exact .inl h0
  · refine .inr ⟨b, o, hA, hb, fun i hi => ?_⟩
    have hbl : g + 1 ≤ b := hf _ hA
    rw [World.cell?_setCell_other _ _ _ _ (fun e => by have := congrArg Addr.block e; simp at this; omega)]
    exact hc i hi

theorem Sl.on' {w w' : World} {A : Option Addr} {n c : Nat} {l : List Int} (h : Sl w w.heap.size A n c l) (hb : Below w.heap.size w w') : Sl w' w'.heap.size A n c l := h.on hb
/-- What Parts answers: two naturals. -/
def PartsPost (x y : Int) (w : World) (e : Ending) (w' : World) : Prop :=
  ∃ A n c l A' n' c' l', e = .returned (.tuple #[.slice A n c, .slice A' n' c']) ∧ Sl w' w'.heap.size A n c l ∧ Norm l ∧ natV l = x ∧ Sl w' w'.heap.size A' n' c' l' ∧ Norm l' ∧ natV l' = y ∧ Below w.heap.size w w'

set_option maxHeartbeats 4000000 in
theorem rparts_any (A B : Option Addr) (n m c d : Nat) (a b : List Int) (w : World) (h : Sl w w.heap.size A n c a) (h' : Sl w w.heap.size B m d b) (hn : n ≤ 1000000) (hm : m ≤ 1000000) (hb0 : 0 < natV b) :
    Calls Tryd.prog 43 #[.slice A n c, .slice B m d] w (PartsPost (natV a / natV b) (natV a % natV b) w) := by
  have HA := Lib.hid h; have HB := Lib.hid h'
  have V0 := Lib.hid (natV_nonneg h.lim)
  have D0 := Lib.hid hb0
  have Dm : Hid (2 * natV b + 1 ≤ pw (32 * ((m + 1 : Nat) : Int))) := by
    have h1 := natV_lt h'.lim
    have h2 := pw32 m
    have h3 := pw_pos (32 * (m : Int))
    rw [h'.len] at h1
    unfold Hid; omega
  have s0 := Lib.hid (parts_start (V := natV a) (d := natV b) (N := n) (natV_nonneg h.lim) (by rw [← h.len]; exact natV_lt h.lim))
  clear h h' hb0
  go_enter Tryd.func43, Tryd.ntmps43
  go_wp2_with (at_make; go_loud (refine wpList_mk rfl _ _ rfl w.heap.size _ _ n rfl rfl rfl rfl (by omega) (Nat.le_refl _) ?_); intro w1 hown1 hb1 hz1)
  go_loopw [7, 8] (fun v i wr => ∃ (k : Int) (o : List Int) (A2 : Option Addr) (n2 c2 : Nat) (l2 : List Int), v = .slice A2 n2 c2 ∧ i = .int .i64 (k - 1) ∧ 0 ≤ k ∧ k ≤ 32 * (n : Int) ∧ wr.ownsRow w.heap.size 84 1 (.slice (some ⟨w.heap.size, 0, none⟩) n n) n (o.map (Value.int .u32)) ∧ Below w.heap.size w wr ∧ w.heap.size < wr.heap.size ∧
    Sl wr wr.heap.size A2 n2 c2 l2 ∧ Norm l2 ∧ Fresh (w.heap.size + 1) A2 ∧ PartsAt (natV a) (natV b) n k o (natV l2)) (fun _ i _ => (intOf i + 1).toNat)
  case atStart => exact ⟨32 * (n : Int), _, none, 0, 0, [], rfl, by go_num, by omega, by omega, hown1, hb1, hz1, Sl.nil_ _ _, norm_nil, (fun _ e => by cases e), s0.out⟩
  case round =>
    obtain ⟨k, o, A2, n2, c2, l2, rfl, rfl, k0, k1, hown, hB, hz, hs2, hn2, fr2, hP⟩ := hrel
    clear hown1 hb1 hz1 s0
    have bn : (n : Int) ≤ 1000000 := by omega
    by_cases hk : 1 ≤ k
    · obtain ⟨j, hj⟩ : ∃ j, k - 1 = j := ⟨_, rfl⟩
      have ek : k = j + 1 := by omega
      subst ek
      have j0 : 0 ≤ j := by omega
      have j1 : j < 32 * (n : Int) := by omega
      have l2m : n2 ≤ m + 1 := by
        rw [← hs2.len]
        refine norm_len hs2.lim hn2 ?_
        have := Dm.out; have r1 := Int.emod_lt_of_pos (natV a / pw (j + 1)) D0.out; rw [← hP.r] at r1; have := D0.out; omega
      have CB := Lib.hid (bit_any A n c a j wr (HA.out.on' hB) j0 (by omega))
      have CT := Lib.hid (fun mo => rtwice_any A2 n2 c2 l2 mo wr hs2 (by omega))
      have SB := Lib.hid (b2i_bit (natV a) j)
      have Hown := Lib.hid hown
      have hP := Lib.hid hP
      clear hown hs2 hn2 fr2 hk k0
      generalize bitV (natV a) j = bb at *
      have wj : j + 1 - 1 = j := by omega
      simp only [wj]
      clear wj hj
      go_wp2_with fail
      refine CB.out.mono ?_
      rintro e w' ⟨rfl, rfl⟩
      go_wp2_with fail
      refine (CT.out bb).mono ?_
      rintro e w2 ⟨A3, n3, c3, l3, rfl, hs3, hn3, hv3, fr3, hb3⟩
      have hS : Hid (natV l3 = 2 * natV l2 + natV a / pw j % 2) := by unfold Hid; rw [hv3, SB.out]
      have n3m : n3 ≤ m + 1 := by
        rw [← hs3.len]
        refine norm_len hs3.lim hn3 ?_
        have hr := hP.out.r
        have r1 := Int.emod_lt_of_pos (natV a / pw (j + 1)) D0.out
        rw [← hr] at r1
        have := Dm.out; rw [hS.out]; omega
      have hown2 := row_below Hown.out hb3
      have hB2 : Below w.heap.size w w2 := hB.trans (hb3.mono hB.size)
      have hz2 : w.heap.size < w2.heap.size := Nat.lt_of_lt_of_le hz hb3.size
      have fr3 : Fresh (w.heap.size + 1) A3 := fr3.mono hz
      clear hv3 hb3 Hown hB CB CT SB hz
      have Hown := Lib.hid hown2; clear hown2
      go_wp2_with fail
      refine (rcmp_any A3 B n3 m c3 d l3 b w2 hs3 (HB.out.on' hB2) (by omega) (by omega)).mono ?_
      rintro e w3 ⟨rfl, hb4⟩
      have hs3 := hs3.on hb4
      have hown3 := row_below Hown.out hb4
      have hB3 : Below w.heap.size w w3 := hB2.trans (hb4.mono hB2.size)
      have hz3 : w.heap.size < w3.heap.size := Nat.lt_of_lt_of_le hz2 hb4.size
      clear Hown hb4 hB2 hz2
      have Hown := Lib.hid hown3; clear hown3
      by_cases cc : natV l3 < natV b
      · have e1 : cmpI (natV l3) (natV b) = -1 := by unfold cmpI; rw [if_pos cc]
        have fin := Lib.hid (parts_keep V0.out D0.out j0 hP.out hS.out cc)
        rw [e1]
        clear e1 cc hP hS
        go_wp2
        go_roundw
        case rel => exact ⟨j, o, A3, n3, c3, l3, rfl, rfl, j0, by omega, Hown.out, hB3, hz3, hs3, hn3, fr3, fin.out⟩
        case measure => simp [intOf]; omega
      · have e1 : Hid (0 ≤ cmpI (natV l3) (natV b)) := by unfold cmpI Hid; rw [if_neg cc]; split <;> decide
        obtain ⟨r, hr⟩ : ∃ r, cmpI (natV l3) (natV b) = r := ⟨_, rfl⟩
        rw [hr] at e1
        rw [hr]
        have e1 := e1.out
        clear hr
        have CL := Lib.hid (rless_any A3 B n3 m c3 d l3 b w3 hs3 (HB.out.on' hB3) (by omega) (by omega) (by omega))
        have cc2 : Hid (natV b ≤ natV l3) := by unfold Hid; omega
        clear hs3
        go_wp2_with fail
        refine CL.out.mono ?_
        rintro e w4 ⟨A5, n5, c5, l5, rfl, hs5, hn5, hv5, fr5, hb5⟩
        have hv5 := Lib.hid hv5
        have hown4 := row_below Hown.out hb5
        have hB4 : Below w.heap.size w w4 := hB3.trans (hb5.mono hB3.size)
        have hz4 : w.heap.size < w4.heap.size := Nat.lt_of_lt_of_le hz3 hb5.size
        have fr5 : Fresh (w.heap.size + 1) A5 := fr5.mono hz3
        clear Hown hb5 hB3 hz3 CL
        have Hown := Lib.hid hown4
        have ql : (j / 32).toNat < n := by omega
        have cell := row_cell hown4 (j / 32).toNat ql
        have fz : World.frozen? _ ⟨w.heap.size, (j / 32).toNat, none⟩ = false := hown4.frozenAt (j / 32).toNat
        obtain ⟨b1, b2, b3⟩ := natV_setbit hP.out.lim j0 (by rw [hP.out.len]; exact ql) (parts_bit j0 hP.out)
        have fin := Lib.hid (parts_set V0.out D0.out j0 hP.out hS.out cc2.out b2 b3)
        have Hset := Lib.hid (row_set hown4 (j / 32).toNat (digV o (j / 32).toNat + pw (j % 32)))
        have B1 := Lib.hid b1
        obtain ⟨q, hq⟩ : ∃ q : Nat, (j / 32).toNat = q := ⟨_, rfl⟩
        have hq2 : j / 32 = (q : Int) := by omega
        rw [hq] at cell fz b1 b2 Hset B1 fin
        rw [hq] at ql
        have ql2 : (q : Int) < (n : Int) := by omega
        have hr0 : 0 ≤ j % 32 := by omega
        have hr1 : j % 32 < 32 := by omega
        have hp : (2 : Int) ^ (j % 32).toNat = pw (j % 32) := pw_eq _
        have hpl : pw (j % 32) < 4294967296 := by
          have := pw_mono (a := j % 32 + 1) (b := 32) (by omega) (by omega)
          have := pw_succ (j % 32) (by omega)
          rw [show pw 32 = 4294967296 from rfl] at *; omega
        have hp0 := pw_pos (j % 32)
        generalize pw (j % 32) = P at *
        generalize digV o q = z at *
        clear hown4 b1 b2 b3 hq
        go_wp2
        go_roundw
        case rel => exact ⟨j, _, A5, n5, c5, l5, rfl, rfl, j0, by omega, by rw [B1.out]; exact Hset.out, hB4.setCell (Nat.le_refl _) _, by simpa [World.setCell] using hz4, (hs5.far fr5).more (by simp [World.setCell]), hn5, fr5, by rw [hv5.out]; exact fin.out⟩
        case measure => simp [intOf]; omega
    · have ek : k = 0 := by omega
      subst ek
      obtain ⟨p1, p2, p3, p4⟩ := hP
      rw [show pw 0 = 1 from rfl, Int.ediv_one, Int.mul_one] at p3
      rw [show pw 0 = 1 from rfl, Int.ediv_one] at p4
      have n2m : n2 ≤ m + 1 := by
        rw [← hs2.len]
        refine norm_len hs2.lim hn2 ?_
        have := Dm.out; have r1 := Int.emod_lt_of_pos (natV a) D0.out; rw [← p4] at r1; have := D0.out; omega
      have HT1 := Lib.hid (rtrim_any _ n n o wr (row_sl hown p2) (by omega))
      have p4 := Lib.hid p4; have p3 := Lib.hid p3
      have hs2h := Lib.hid hs2
      clear hown hs2 HA HB
      go_wp2_with fail
      refine HT1.out.mono ?_
      rintro e w2 ⟨A3, n3, c3, l3, rfl, hs3, hn3, hv3, fr3, hb3⟩
      have hb2 := Lib.hid (rtrim_any A2 n2 c2 l2 w2 (hs2h.out.on hb3) (by omega))
      have hv3 := Lib.hid hv3
      go_wp2_with fail
      refine hb2.out.mono ?_
      rintro e w3 ⟨A4, n4, c4, l4, rfl, hs4, hn4, hv4, fr4, hb4⟩
      have fin : Hid (PartsPost (natV a / natV b) (natV a % natV b) w (.returned (.tuple #[.slice A3 n3 c3, .slice A4 n4 c4])) w3) :=
        ⟨A3, n3, c3, l3, A4, n4, c4, l4, rfl, hs3.on hb4, hn3, by rw [hv3.out, p3.out], hs4, hn4, by rw [hv4, p4.out], hB.trans ((hb3.mono hB.size).trans (hb4.mono (Nat.le_trans hB.size hb3.size)))⟩
      clear hs3 hs4 hn3 hn4 hv4 hb3 hb4 fr3 fr4 hB hs2h hb2
      go_wp2
      go_ret2
      exact fin.out
end Go.Proofs.YtnefacnceemklaaDoor

/-
  The document's naturals: Big, Shl, Shr; layer 2's Shl, Shr, Root.
-/
namespace Go.Proofs.YtnefacnceemklaaDoor
open Go.RowKit Go.Shelf

/-- A natural and an error's number 0. -/
def NatOPost (v : Int) (w : World) (e : Ending) (w' : World) : Prop :=
  ∃ A n c l, e = .returned (.tuple #[.slice A n c, .int .i64 0]) ∧ Sl w' w'.heap.size A n c l ∧ Norm l ∧ natV l = v ∧ Fresh w.heap.size A ∧ Below w.heap.size w w'
theorem NatOPost.mk {A : Option Addr} {n c : Nat} {l : List Int} {v : Int} {w w' : World} (hs : Sl w' w'.heap.size A n c l) (hn : Norm l) (hv : natV l = v) (fr : Fresh w.heap.size A) (hb : Below w.heap.size w w') : NatOPost v w (.returned (.tuple #[.slice A n c, .int .i64 0])) w' := ⟨A, n, c, l, rfl, hs, hn, hv, fr, hb⟩

theorem shl_eq {V n : Int} {j : Nat} (hj : n / 32 = (j : Int)) : pw (32 * (j : Int)) * V * pw (n % 32) = V * pw n := by
  have e : pw n = pw (32 * (j : Int)) * pw (n % 32) := by rw [← pw_add _ _ (by omega) (by omega)]; congr 1; omega
  rw [e, Int.mul_comm _ V, Int.mul_assoc]

theorem mul_mod_le {x n : Int} (hn : 128 ≤ n) : x * pw n % 340282366920938463463374607431768211456 = 0 := by
  have e : pw n = 340282366920938463463374607431768211456 * pw (n - 128) := by
    have := pw_add 128 (n - 128) (by decide) (by omega)
    rw [show 128 + (n - 128) = n by omega, show pw 128 = 340282366920938463463374607431768211456 from rfl] at this; exact this
  rw [e, Int.mul_left_comm]; exact Int.mul_emod_right _ _
end Go.Proofs.YtnefacnceemklaaDoor

/-
  The document's Shr, Root.
-/
namespace Go.Proofs.YtnefacnceemklaaDoor
open Go.RowKit Go.Shelf

/-- The bits below the i-th, moved down by s. -/
structure ShrAt (V s : Int) (N : Nat) (i : Int) (o : List Int) (lost : Bool) : Prop where
  len : o.length = N
  lim : ∀ x ∈ o, Limb x
  v : natV o = V % pw i / pw s
  l : lost = decide (V % pw (min i s) ≠ 0)
theorem mod_succ (V i : Int) (hi : 0 ≤ i) : V % pw (i + 1) = V % pw i + pw i * (V / pw i % 2) := by
  have hp := pw_pos i
  have a := Int.mul_ediv_add_emod V (pw i)
  have b := Int.mul_ediv_add_emod (V / pw i) 2
  have r0 := Int.emod_nonneg V (show pw i ≠ 0 by omega)
  have r1 := Int.emod_lt_of_pos V hp
  have t : V = (V % pw i + pw i * (V / pw i % 2)) + pw (i + 1) * (V / pw i / 2) := by
    rw [pw_succ i hi, Int.mul_comm 2 (pw i), Int.mul_assoc]
    have : pw i * (V / pw i) = pw i * (2 * (V / pw i / 2)) + pw i * (V / pw i % 2) := by rw [← Int.mul_add, b]
    omega
  have lt : V % pw i + pw i * (V / pw i % 2) < pw (i + 1) := by
    rw [pw_succ i hi]
    have h2 : V / pw i % 2 = 0 ∨ V / pw i % 2 = 1 := by omega
    rcases h2 with h2 | h2 <;> rw [h2] <;> omega
  have ge : 0 ≤ V % pw i + pw i * (V / pw i % 2) := by
    have := Int.mul_nonneg (Int.le_of_lt hp) (show 0 ≤ V / pw i % 2 by omega)
    omega
  rw [t, Int.add_mul_emod_self_left, Int.emod_eq_of_lt ge lt]
  rw [← t]
theorem shr_no {V s i : Int} {N : Nat} {o : List Int} {lost : Bool} (hi : 0 ≤ i) (h : ShrAt V s N i o lost) (hb : V / pw i % 2 = 0) : ShrAt V s N (i + 1) o lost := by
  obtain ⟨h1, h2, h3, h4⟩ := h
  have e : V % pw (i + 1) = V % pw i := by rw [mod_succ V i hi, hb]; omega
  refine ⟨h1, h2, by rw [h3, e], ?_⟩
  rw [h4]
  rcases Int.lt_or_le i s with c | c
  · rw [show min i s = i by omega, show min (i + 1) s = i + 1 by omega, e]
  · rw [show min i s = s by omega, show min (i + 1) s = s by omega]
theorem shr_lost {V s i : Int} {N : Nat} {o : List Int} {lost : Bool} (hi : 0 ≤ i) (h : ShrAt V s N i o lost) (hb : V / pw i % 2 = 1) (hs : i < s) : ShrAt V s N (i + 1) o true := by
  obtain ⟨h1, h2, h3, h4⟩ := h
  have hp := pw_pos i
  have e : V % pw (i + 1) = V % pw i + pw i := by rw [mod_succ V i hi, hb]; omega
  have r0 := Int.emod_nonneg V (show pw i ≠ 0 by omega)
  have r1 := Int.emod_lt_of_pos V hp
  have m := pw_mono (a := i + 1) (b := s) (by omega) (by omega)
  have p2 := pw_succ i hi
  refine ⟨h1, h2, ?_, ?_⟩
  · rw [h3, e, Int.ediv_eq_zero_of_lt r0 (by omega), Int.ediv_eq_zero_of_lt (by omega) (by omega)]
  · rw [show min (i + 1) s = i + 1 by omega, e]
    have : V % pw i + pw i ≠ 0 := by omega
    simp [this]
theorem shr_bit {V s i : Int} {N : Nat} {o : List Int} {lost : Bool} (_hi : 0 ≤ i) (hs0 : 0 ≤ s) (h : ShrAt V s N i o lost) (hs : s ≤ i) : natV o / pw (i - s) % 2 = 0 := by
  have hp := pw_pos i
  have r0 := Int.emod_nonneg V (show pw i ≠ 0 by omega)
  have r1 := Int.emod_lt_of_pos V hp
  have e : pw i = pw (i - s) * pw s := by rw [← pw_add _ _ (by omega) hs0]; congr 1; omega
  have lt : V % pw i / pw s < pw (i - s) := Int.ediv_lt_of_lt_mul (pw_pos s) (by rw [← e]; exact r1)
  rw [h.v, Int.ediv_eq_zero_of_lt (Int.ediv_nonneg r0 (Int.le_of_lt (pw_pos s))) lt]; rfl
theorem shr_set {V s i x : Int} {N : Nat} {o : List Int} {lost : Bool} (hi : 0 ≤ i) (hs0 : 0 ≤ s) (h : ShrAt V s N i o lost) (hb : V / pw i % 2 = 1) (hs : s ≤ i) (hx : Limb x)
    (hset : natV (o.set ((i - s) / 32).toNat x) = natV o + pw (i - s)) : ShrAt V s N (i + 1) (o.set ((i - s) / 32).toNat x) lost := by
  obtain ⟨h1, h2, h3, h4⟩ := h
  have e : V % pw (i + 1) = V % pw i + pw s * pw (i - s) := by rw [mod_succ V i hi, hb, ← pw_add _ _ hs0 (by omega), show s + (i - s) = i by omega]; omega
  refine ⟨by rw [List.length_set, h1], limbs_set h2 _ hx, ?_, ?_⟩
  · rw [hset, h3, e, Int.add_mul_ediv_left _ _ (Int.ne_of_gt (pw_pos s))]
  · rw [h4, show min i s = s by omega, show min (i + 1) s = s by omega]
theorem shr_start (V s : Int) (N : Nat) (hs : 0 ≤ s) : ShrAt V s N 0 (List.replicate N 0) false := by
  refine ⟨by simp, limbs_rep _, ?_, ?_⟩
  · rw [natV_rep, show pw 0 = 1 from rfl, Int.emod_one, Int.zero_ediv]
  · rw [show min 0 s = 0 by omega, show pw 0 = 1 from rfl, Int.emod_one]; simp
theorem shr_end {V s : Int} {N : Nat} {o : List Int} {lost : Bool} (hV : 0 ≤ V) (hlt : V < pw (32 * (N : Int))) (h : ShrAt V s N (32 * (N : Int)) o lost) : natV o = V / pw s ∧ lost = decide (V % pw s ≠ 0) := by
  obtain ⟨h1, h2, h3, h4⟩ := h
  have e := Int.emod_eq_of_lt hV hlt
  rw [e] at h3
  refine ⟨h3, ?_⟩
  rw [h4]
  rcases Int.lt_or_le (32 * (N : Int)) s with c | c
  · rw [show min (32 * (N : Int)) s = 32 * (N : Int) by omega, e]
    have m := pw_mono (a := 32 * (N : Int)) (b := s) (by omega) (by omega)
    rw [Int.emod_eq_of_lt hV (by omega)]
  · rw [show min (32 * (N : Int)) s = s by omega]

/-- A natural, a bool, an error's number 0. -/
def NatBOPost (P : Int → Bool → Prop) (w : World) (e : Ending) (w' : World) : Prop :=
  ∃ A n c l o, e = .returned (.tuple #[.slice A n c, .bool o, .int .i64 0]) ∧ Sl w' w'.heap.size A n c l ∧ Norm l ∧ P (natV l) o ∧ Below w.heap.size w w'

/-- The document's root. -/
def RRootPost (v : Int) (w : World) (e : Ending) (w' : World) : Prop := ∃ r : Int, e = .returned (.int .u64 r) ∧ Word r ∧ r * r ≤ v ∧ v < (r + 1) * (r + 1) ∧ Below w.heap.size w w'
theorem rroot_unique {r s v : Int} (hr : 0 ≤ r) (hs : 0 ≤ s) (h1 : r * r ≤ v) (h2 : v < (r + 1) * (r + 1)) (h3 : s * s ≤ v) (h4 : v < (s + 1) * (s + 1)) : r = s := by
  rcases Int.lt_trichotomy r s with c | c | c
  · have := Int.mul_le_mul (show r + 1 ≤ s by omega) (show r + 1 ≤ s by omega) (by omega) hs; omega
  · exact c
  · have := Int.mul_le_mul (show s + 1 ≤ r by omega) (show s + 1 ≤ r by omega) (by omega) hr; omega
end Go.Proofs.YtnefacnceemklaaDoor

/-
  The document's answers to layer 3 (tabardref3): Up, low, from.
-/
namespace Go.Proofs.YtnefacnceemklaaDoor
open Go.RowKit Go.Shelf

/-- append of a slice of limbs, nil and empty ones too. -/
theorem wpList_appSl {w : World} {ops : Array Oper} {rest : List Oper} {o : Oper} {a : Act} {Q : Exit → Act → World → Prop} (hgd : o.guard = none) (s x : Operand)
    (ho : o.op = .call { callee := .builtin .append, args := #[s, x], argTypes := #[49, 49] })
    (base : Nat) (v : Value) (n : Nat) (l : List Int) (hown : w.ownsRow base 84 1 v n (l.map (Value.int .u32))) (hs : a.eval s = v)
    (B : Nat) (A : Option Addr) (m c : Nat) (news : List Int) (hsl : Sl w B A m c news) (hx : a.eval x = .slice A m c)
    (hb : n + m ≤ 2000000000) (hbase : base ≤ w.heap.size)
    (h : ∀ v' w', w'.ownsRow base 84 1 v' (n + m) ((l ++ news).map (Value.int .u32)) → Below base w w' → wpList Tryd.prog ops Q rest (a.put o.dst v') w') : wpList Tryd.prog ops Q (o :: rest) a w := by
  cases A with
  | none =>
    obtain ⟨rfl, rfl⟩ := hsl.nil rfl
    have e : news = [] := List.eq_nil_of_length_eq_zero hsl.len
    subst e
    obtain ⟨i0, hi, hz0, hz1, hz2⟩ := info_parts Tryd.info71
    refine wpList_append_own_none hgd s x 49 ho base 84 i0 1 Tryd.underlying49 hi v n _ hs hown hx (h v w (by simpa using hown) (Below.refl _ _))
  | some ad =>
    refine wpList_app hgd s x ho base v n l hown hs ad m c news hx hsl.len ?_ hb hbase h
    intro i hi
    rcases hsl.rd with h0 | ⟨b, o, hA, _, hc⟩
    · have := hsl.len; omega
    · injection hA with hA
      subst hA
      rw [Addr.add_lit]; exact hc i hi

set_option maxHeartbeats 4000000 in
theorem rup_any (A : Option Addr) (n c : Nat) (a : List Int) (s : Int) (w : World) (h : Sl w w.heap.size A n c a) (hn : n ≤ 10000) (s0 : 0 ≤ s) (s1 : s ≤ 320000) :
    Calls Tryd.prog 44 #[.slice A n c, .int .i64 s] w (NatPost (natV a * pw s) w) := by
  have HA := Lib.hid h
  obtain ⟨j, hj⟩ : ∃ j : Nat, s / 32 = (j : Int) := ⟨(s / 32).toNat, by omega⟩
  have hj2 : j ≤ 10000 := by omega
  have HL := Lib.hid h.lim
  clear h
  go_enter Tryd.func44, Tryd.ntmps44
  go_wp2_with (first
    | (at_make; refine wpList_mk rfl _ _ rfl w.heap.size _ _ j rfl rfl (by assumption) (by assumption) (by omega) (Nat.le_refl _) ?_; intro w4 hown4 hb4 hz4)
    | (at_builtin; refine wpList_appSl rfl _ _ rfl w.heap.size _ j (List.replicate j 0) hown4 rfl w.heap.size A n c a (HA.out.below hb4) rfl (by omega) hb4.size ?_; intro v5 w5 hown5 hb5))
  have lim5 : ∀ x ∈ List.replicate j (0 : Int) ++ a, Limb x := fun x hx => by
    rcases List.mem_append.1 hx with h | h
    · exact limbs_rep j x h
    · exact HL.out x h
  have val5 : natV (List.replicate j (0 : Int) ++ a) = pw (32 * (j : Int)) * natV a := by
    rw [natV_append, natV_rep, List.length_replicate]; omega
  obtain ⟨A5, c5, rfl, hs5, _⟩ := Sl.of_own hown5 lim5
  have hB5 : Below w.heap.size w w5 := hb4.trans hb5
  have e0 : Hid (natV (List.replicate j (0 : Int) ++ a) = pw (32 * (j : Int)) * natV a * pw ((0 : Nat) : Int)) := by
    rw [val5]; show _ = _ * 1; omega
  clear hown4 hb4 hz4 hown5 hb5 lim5 val5
  have hm0 : 0 ≤ s % 32 := by omega
  go_loopw [5, 6] (fun v kk wr => ∃ (k : Nat) (A3 : Option Addr) (n3 c3 : Nat) (l3 : List Int), kk = .int .i64 (k : Int) ∧ (k : Int) ≤ s % 32 ∧ v = .slice A3 n3 c3 ∧ n3 ≤ 20000 + k ∧ Sl wr wr.heap.size A3 n3 c3 l3 ∧ Below w.heap.size w wr ∧ Hid (natV l3 = pw (32 * (j : Int)) * natV a * pw (k : Int))) (fun _ kk _ => (s % 32 - intOf kk).toNat)
  case atStart => exact ⟨0, A5, _, c5, _, rfl, by omega, rfl, by omega, hs5, hB5, e0⟩
  case round =>
    obtain ⟨k, A3, n3, c3, l3, rfl, hk, rfl, hn3, hs3, hB, hv3⟩ := hrel
    clear hs5 hB5 e0
    by_cases hlt : (k : Int) < s % 32
    · have CT := Lib.hid (rtwice_any A3 n3 c3 l3 false wr hs3 (by omega))
      have hl3 := Lib.hid (natV_lt hs3.lim)
      have hl3b := Lib.hid hs3.len
      clear hs3
      go_wp2_with fail
      refine CT.out.mono ?_
      rintro e w6 ⟨A6, n6, c6, l6, rfl, hs6, hn6, hv6, fr6, hb6⟩
      have n6b : n6 ≤ n3 + 1 := by
        rw [← hs6.len]
        refine norm_len hs6.lim hn6 ?_
        have h1 := hl3.out
        rw [hl3b.out] at h1
        have h2 := pw32 n3
        have h3 := pw_pos (32 * (n3 : Int))
        rw [hv6]
        have : b2i false = 0 := rfl
        omega
      have e6 : Hid (natV l6 = pw (32 * (j : Int)) * natV a * pw ((k + 1 : Nat) : Int)) := by
        unfold Hid
        rw [hv6, hv3.out, show ((k + 1 : Nat) : Int) = (k : Int) + 1 by omega, pw_succ _ (by omega), show b2i false = 0 from rfl, Int.mul_left_comm]; omega
      have hB6 : Below w.heap.size w w6 := hB.trans (hb6.mono hB.size)
      clear hv6 hb6 hn6 fr6 CT hB
      go_wp2
      go_roundw
      case rel => exact ⟨k + 1, A6, n6, c6, l6, by go_num, by omega, rfl, by omega, hs6, hB6, e6⟩
      case measure => simp [intOf]; omega
    · have ek : (k : Int) = s % 32 := by omega
      have HT := Lib.hid (rtrim_any A3 n3 c3 l3 wr hs3 (by omega))
      clear hs3
      go_wp2_with fail
      refine HT.out.mono ?_
      rintro e w6 ⟨A6, n6, c6, l6, rfl, hs6, hn6, hv6, fr6, hb6⟩
      have fin := Lib.hid (NatPost.mk (v := natV a * pw s) (w := w) hs6 hn6 (by rw [hv6, hv3.out, ek, shl_eq hj]) (fr6.mono hB.size) (hB.trans (hb6.mono hB.size)))
      clear hs6 hn6 hv6 fr6 hb6 hB ek
      go_wp2
      go_ret
      exact fin.out

theorem mod_up {V i n : Int} (hi : 0 ≤ i) (hn : i ≤ n) (h : V % pw n = 0) : V % pw i = 0 := by
  have e : pw n = pw i * pw (n - i) := by rw [← pw_add _ _ hi (by omega)]; congr 1; omega
  rw [← Int.mul_ediv_add_emod V (pw n), h, e, Int.mul_assoc, Int.add_zero]; exact Int.mul_emod_right _ _
set_option maxHeartbeats 1000000 in
theorem rlow_any (A : Option Addr) (n c : Nat) (a : List Int) (s : Int) (w : World) (h : Sl w w.heap.size A n c a) (hn : n ≤ 1000000) (s0 : 0 ≤ s) (s1 : s ≤ 4611686018427387904) :
    Calls Tryd.prog 84 #[.slice A n c, .int .i64 s] w fun e w' => e = .returned (.bool (decide (natV a % pw s ≠ 0))) ∧ w = w' := by
  have HA := Lib.hid h
  have V0 := Lib.hid (natV_nonneg h.lim)
  have V1 : Hid (natV a < pw (32 * (n : Int))) := by rw [← h.len]; exact natV_lt h.lim
  have bn : (n : Int) ≤ 1000000 := by omega
  obtain ⟨r, hr⟩ : ∃ r, decide (natV a % pw s ≠ 0) = r := ⟨_, rfl⟩
  rw [hr]
  have HR := Lib.hid hr
  clear h hr
  go_enter Tryd.func84, Tryd.ntmps84
  go_wp2
  go_loopw [5] (fun i wr => ∃ k : Nat, i = .int .i64 (k : Int) ∧ (k : Int) ≤ s ∧ (k : Int) ≤ 32 * (n : Int) ∧ Hid (natV a % pw (k : Int) = 0) ∧ w = wr) (fun i _ => (s - intOf i).toNat)
  case atStart => exact ⟨0, rfl, by omega, by omega, by unfold Hid; rw [show pw ((0 : Nat) : Int) = 1 from rfl, Int.emod_one], rfl⟩
  case round =>
    obtain ⟨k, rfl, hk, hk2, hz, rfl⟩ := hrel
    by_cases c1 : (k : Int) < s ∧ (k : Int) < 32 * (n : Int)
    · obtain ⟨c1, c2⟩ := c1
      have CB := Lib.hid (bit_any A n c a (k : Int) w HA.out (by omega) (by omega))
      have hm := Lib.hid (mod_succ (natV a) (k : Int) (by omega))
      rcases Bool.eq_false_or_eq_true (bitV (natV a) (k : Int)) with hb | hb
      · have fin : Hid (r = true) := by
          have hb1 : natV a / pw (k : Int) % 2 = 1 := by unfold bitV at hb; exact of_decide_eq_true hb
          have hne : natV a % pw s ≠ 0 := fun e => by
            have := mod_up (V := natV a) (i := (k : Int) + 1) (by omega) (by omega) e
            rw [hm.out, hz.out, hb1] at this
            have := pw_pos (k : Int); omega
          rw [← HR.out]; exact decide_eq_true hne
        rw [hb] at CB
        clear hb hm
        go_wp2_with fail
        refine CB.out.mono ?_
        rintro e w' ⟨rfl, rfl⟩
        go_wp2
        go_ret
        exact ⟨by rw [fin.out]; rfl, rfl⟩
      · have hz2 : Hid (natV a % pw ((k + 1 : Nat) : Int) = 0) := by
          have hb0 : natV a / pw (k : Int) % 2 = 0 := by unfold bitV at hb; have := of_decide_eq_false hb; omega
          unfold Hid
          rw [show ((k + 1 : Nat) : Int) = (k : Int) + 1 by omega, hm.out, hz.out, hb0]; omega
        rw [hb] at CB
        clear hb hm
        go_wp2_with fail
        refine CB.out.mono ?_
        rintro e w' ⟨rfl, rfl⟩
        go_wp2
        go_roundw
        case rel => exact ⟨k + 1, by go_num, by omega, by omega, hz2, by first | trivial | rfl⟩
        case measure => simp [intOf]; omega
    · have fin : Hid (r = false) := by
        have he : natV a % pw s = 0 := by
          by_cases c2 : (k : Int) < s
          · have ek : (k : Int) = 32 * (n : Int) := by omega
            have h1 := hz.out
            rw [ek, Int.emod_eq_of_lt V0.out V1.out] at h1
            rw [h1]; exact Int.zero_emod _
          · have ek : (k : Int) = s := by omega
            rw [← ek]; exact hz.out
        unfold Hid; rw [← HR.out, he]; rfl
      by_cases c2 : (k : Int) < s
      · have c3 : 32 * (n : Int) ≤ (k : Int) := by omega
        clear c1
        go_wp2
        go_ret
        exact ⟨by rw [fin.out]; rfl, rfl⟩
      · clear c1
        go_wp2
        go_ret
        exact ⟨by rw [fin.out]; rfl, rfl⟩

/-- The first bits from the n-th on. -/
theorem from_step {q P : Int} (hP : 0 < P) : q % (2 * P) = 2 * (q / 2 % P) + q % 2 := by
  have a := Int.mul_ediv_add_emod (q / 2) P
  have r0 := Int.emod_nonneg (q / 2) (show P ≠ 0 by omega)
  have r1 := Int.emod_lt_of_pos (q / 2) hP
  generalize q / 2 % P = r at *
  generalize q / 2 / P = t at *
  have e : q = (2 * r + q % 2) + 2 * P * t := by rw [Int.mul_assoc]; omega
  rw [e, Int.add_mul_emod_self_left, Int.emod_eq_of_lt (by omega) (by omega)]; omega
set_option maxHeartbeats 1000000 in
theorem rfrom_any (A : Option Addr) (n c : Nat) (a : List Int) (s : Int) (w : World) (h : Sl w w.heap.size A n c a) (s0 : 0 ≤ s) (s1 : s ≤ 4611686018427387904) :
    Calls Tryd.prog 83 #[.slice A n c, .int .i64 s] w fun e w' => e = .returned (.int .u64 (natV a / pw s % 18446744073709551616)) ∧ w = w' := by
  have HA := Lib.hid h
  clear h
  obtain ⟨R, hR⟩ : ∃ R, natV a / pw s % 18446744073709551616 = R := ⟨_, rfl⟩
  rw [hR]
  have HR := Lib.hid hR
  clear hR
  go_enter Tryd.func83, Tryd.ntmps83
  go_wp2
  go_loopw [5, 6] (fun v i wr => ∃ k x : Int, i = .int .i64 (63 - k) ∧ 0 ≤ k ∧ k ≤ 64 ∧ v = .int .u64 x ∧ 0 ≤ x ∧ x < 18446744073709551616 ∧ Hid (x = natV a / pw (s + (64 - k)) % pw k) ∧ w = wr) (fun _ i _ => (intOf i + 1).toNat)
  case atStart => exact ⟨0, 0, by go_num, by decide, by decide, rfl, by decide, by decide, by unfold Hid; rw [show pw 0 = 1 from rfl, Int.emod_one], rfl⟩
  case round =>
    obtain ⟨k, x, rfl, k0, k1, rfl, x0, x1, hx, rfl⟩ := hrel
    by_cases hk : k < 64
    · have CB := Lib.hid (bit_any A n c a (s + (63 - k)) w HA.out (by omega) (by omega))
      have hxb : x < 9223372036854775808 := by
        have h1 := Int.emod_lt_of_pos (natV a / pw (s + (64 - k))) (pw_pos k)
        rw [← hx.out] at h1
        have h2 := pw_mono (a := k) (b := 63) k0 (by omega)
        rw [show pw 63 = 9223372036854775808 from rfl] at h2
        omega
      have hq : natV a / pw (s + (64 - k)) = natV a / pw (s + (63 - k)) / 2 := by
        have e : pw (s + (64 - k)) = pw (s + (63 - k)) * 2 := by rw [show s + (64 - k) = s + (63 - k) + 1 by omega, pw_succ _ (by omega), Int.mul_comm]
        rw [e, Int.ediv_ediv_of_nonneg (Int.le_of_lt (pw_pos _))]
      have hs := from_step (q := natV a / pw (s + (63 - k))) (pw_pos k)
      rw [← pw_succ k k0, ← hq, ← hx.out] at hs
      have HS := Lib.hid hs
      obtain ⟨j, hj⟩ : ∃ j, 63 - k = j := ⟨_, rfl⟩
      have hjk : k = 63 - j := by omega
      subst hjk
      rw [show 63 - (63 - j) = j by omega] at *
      have j0 : 0 ≤ j := by omega
      have j1 : j ≤ 63 := by omega
      rcases Bool.eq_false_or_eq_true (bitV (natV a) (s + j)) with hb | hb
      · have hn : Hid (2 * x + 1 = natV a / pw (s + (64 - (63 - (j - 1)))) % pw (63 - (j - 1))) := by
          have hb1 : natV a / pw (s + j) % 2 = 1 := by unfold bitV at hb; exact of_decide_eq_true hb
          unfold Hid
          rw [show 64 - (63 - (j - 1)) = j by omega, show 63 - (j - 1) = 63 - j + 1 by omega, HS.out, hb1]
        rw [hb] at CB
        clear hb hs hq hj
        go_wp2_with fail
        refine CB.out.mono ?_
        rintro e w' ⟨rfl, rfl⟩
        go_wp2
        go_roundw
        case rel => exact ⟨63 - (j - 1), 2 * x + 1, by rw [show 63 - (63 - (j - 1)) = j - 1 by omega], by omega, by omega, rfl, by omega, by omega, hn, by first | trivial | rfl⟩
        case measure => simp [intOf]; omega
      · have hn : Hid (2 * x = natV a / pw (s + (64 - (63 - (j - 1)))) % pw (63 - (j - 1))) := by
          have hb0 : natV a / pw (s + j) % 2 = 0 := by unfold bitV at hb; have := of_decide_eq_false hb; omega
          unfold Hid
          rw [show 64 - (63 - (j - 1)) = j by omega, show 63 - (j - 1) = 63 - j + 1 by omega, HS.out, hb0]; omega
        rw [hb] at CB
        clear hb hs hq hj
        go_wp2_with fail
        refine CB.out.mono ?_
        rintro e w' ⟨rfl, rfl⟩
        go_wp2
        go_roundw
        case rel => exact ⟨63 - (j - 1), 2 * x, by rw [show 63 - (63 - (j - 1)) = j - 1 by omega], by omega, by omega, rfl, by omega, by omega, hn, by first | trivial | rfl⟩
        case measure => simp [intOf]; omega
    · have ek : k = 64 := by omega
      subst ek
      have fin : Hid (x = R) := by
        unfold Hid
        rw [hx.out, ← HR.out, show s + (64 - 64) = s by omega]; rfl
      clear HA
      go_wp2
      go_ret
      exact ⟨by rw [← fin.out]; rfl, rfl⟩
end Go.Proofs.YtnefacnceemklaaDoor

/-
  The document's Round: the nearest number, by naturals.
-/
namespace Go.Proofs.YtnefacnceemklaaDoor
open Go.RowKit Go.Shelf

theorem LenIs.bits {v L : Int} (h : LenIs v L) : ∃ k : Nat, L = (k : Int) ∧ Bits v k := by
  obtain ⟨k, rfl⟩ := Int.eq_ofNat_of_zero_le h.n0
  exact ⟨k, rfl, h.v0, h.lt, h.ge⟩
/-- What Round answers. -/
def RoundPost (neg : Bool) (v e : Int) (more : Bool) (w : World) (en : Ending) (w' : World) : Prop :=
  ∃ L : Int, LenIs v L ∧ en = .returned (.int .u64 (joinV neg v e L more)) ∧ Below w.heap.size w w'

/-- The number, by the unit U and the kept bits M. -/
def outI (s U M : Int) : Int := if 972 ≤ U then s + 9218868437227405312 else s + (M + (U + 1074) * 4503599627370496)
theorem round_join {neg more : Bool} {v e L : Int} (h : LenIs v L) (hz : v ≠ 0) : joinV neg v e L more = outI (signI neg) (placeI e L) (packV v (placeI e L - e) more) := by
  have L1 : 1 ≤ L := by
    have a := h.lt
    have b := h.v0
    rcases Int.lt_or_le 0 L with c | c
    · omega
    · rw [pw_nonpos c] at a; omega
  unfold joinV outI
  by_cases c1 : e < -2148 - L
  · rw [if_pos (.inr c1)]
    have hU : placeI e L = -1074 := by unfold placeI; omega
    rw [hU, if_neg (by decide)]
    have hM : packV v (-1074 - e) more = 0 := by
      unfold packV
      rw [if_neg (by omega)]
      have m1 := pw_mono (a := L) (b := -1074 - e - 1) h.n0 (by omega)
      have m2 := pw_mono (a := L) (b := -1074 - e) h.n0 (by omega)
      have a := h.lt
      unfold roundI
      rw [Int.emod_eq_of_lt h.v0 (by omega), Int.emod_eq_of_lt h.v0 (by omega), Int.ediv_eq_zero_of_lt h.v0 (by omega)]
      simp
    rw [hM]; omega
  · rw [if_neg (by omega)]
    by_cases c2 : 1024 < e ∨ 1024 < e + L
    · rw [if_pos c2, if_pos (by unfold placeI; omega)]
    · rw [if_neg c2, if_neg (by unfold placeI; omega)]
theorem pack_facts {v e L : Int} (more : Bool) (h : LenIs v L) (hz : v ≠ 0) : 0 ≤ packV v (placeI e L - e) more ∧ packV v (placeI e L - e) more ≤ 9007199254740992 ∧ (packV v (placeI e L - e) more < 4503599627370496 → placeI e L = -1074) := by
  obtain ⟨k, rfl, hb⟩ := h.bits
  have b := packV_bd (c := placeI e (k : Int) - e) more hb (by unfold placeI; omega)
  refine ⟨b.1, b.2, fun hlt => ?_⟩
  by_cases c : e + (k : Int) - 53 ≤ -1074
  · unfold placeI; omega
  · exfalso
    have e1 : placeI e (k : Int) - e = (k : Int) - 53 := by unfold placeI; omega
    rw [e1] at hlt
    have := packV_full more hb hz
    omega
theorem pack_up {v e U : Int} (more : Bool) (h : U ≤ e) : packV v (U - e) more = v * pw (e - U) := by
  unfold packV; rw [if_pos (by omega), show -(U - e) = e - U by omega]
theorem pack_dn {v e U : Int} (more : Bool) (h : e < U) : packV v (U - e) more = roundI v (U - e) more := by
  unfold packV; rw [if_neg (by omega)]
theorem half_bit (v c : Int) (hc : 1 ≤ c) : (v % pw c != v % pw (c - 1)) = bitV v (c - 1) := by
  have m := mod_succ v (c - 1) (by omega)
  rw [show c - 1 + 1 = c by omega] at m
  have hp := pw_pos (c - 1)
  unfold bitV
  rw [m]
  have h2 : v / pw (c - 1) % 2 = 0 ∨ v / pw (c - 1) % 2 = 1 := by omega
  rcases h2 with h2 | h2 <;> rw [h2]
  · simp
  · simp; omega
theorem dec_ne (x : Int) : decide (x ≠ 0) = (x != 0) := by by_cases z : x = 0 <;> simp [z]
theorem place_lo (e L : Int) : -1074 ≤ placeI e L := by unfold placeI; omega

/-- The end of Round: from the unit and the bits on. -/
theorem out_big (s U : Int) (h : 971 ≤ U) : outI s U 9007199254740992 = s + 9218868437227405312 := by
  unfold outI; split <;> omega
theorem out_carry (s U : Int) (h : U < 971) : outI s U 9007199254740992 = s + (U + 1 + 1075) * 4503599627370496 := by
  unfold outI; rw [if_neg (by omega)]; omega
theorem out_small (s M : Int) : outI s (-1074) M = s + M := by
  unfold outI; rw [if_neg (by decide)]; omega
theorem out_inf (s U M : Int) (h : 972 ≤ U) : outI s U M = s + 9218868437227405312 := by unfold outI; rw [if_pos h]
theorem out_plain (s U M : Int) (h : U < 972) : outI s U M = s + (U + 1075) * 4503599627370496 + M - 4503599627370496 := by
  unfold outI; rw [if_neg (by omega)]; omega

set_option maxRecDepth 100000 in
set_option maxHeartbeats 8000000 in
theorem rround_false (A : Option Addr) (n c : Nat) (l : List Int) (e : Int) (more : Bool) (w : World) (h : Sl w w.heap.size A n c l) (hn : n ≤ 3000) (he0 : -9223372036854775808 ≤ e) (he1 : e ≤ 9223372036854775807) :
    Calls Tryd.prog 46 #[.bool false, .slice A n c, .int .i64 e, .bool more] w (RoundPost false (natV l) e more w) := by
  have HL := Lib.hid (rlen_any A n c l w h (by omega))
  have HA := Lib.hid h
  have hlt : Hid (natV l < pw (32 * (n : Int))) := by rw [← h.len]; exact natV_lt h.lim
  have bn : (n : Int) ≤ 3000 := by omega
  clear h
  have sg : Hid (signI false = 0) := rfl
  go_enter Tryd.func46, Tryd.ntmps46
  go_wp2_with fail
  refine HL.out.mono ?_
  rintro en w1 ⟨L, hL, rfl, hb1⟩
  have L0 := hL.n0
  have L1 : L ≤ 96000 := by
    by_cases z : natV l = 0
    · rw [hL.z z]; decide
    · have h1 := hL.ge z
      have h2 := hlt.out
      have h3 : pw L < pw (32 * (n : Int) + 1) := by rw [pw_succ _ (by omega)]; omega
      have := pw_inj_le (a := L) (by omega) h3
      omega
  have HLI := Lib.hid hL
  have HA1 := Lib.hid (HA.out.on hb1)
  have hB := hb1
  by_cases cz : L = 0
  · have cz1 : (L == 0) = true := by simpa using cz
    have v0 : natV l = 0 := by
      rcases Int.lt_or_le 0 (natV l) with g | g
      · have := hL.lt; rw [cz, show pw 0 = 1 from rfl] at this; omega
      · have := hL.v0; omega
    have fin : Hid (joinV false (natV l) e L more = signI false) := by
      unfold Hid joinV
      rw [if_pos (.inl v0)]
    have v0 := Lib.hid v0
    have cz2 := Lib.hid cz
    clear cz hL
    go_wp2
    go_ret
    exact ⟨L, HLI.out, by rw [fin.out, sg.out]; rfl, hB⟩
  · have cz1 : (L == 0) = false := by simpa using cz
    have vz : Hid (natV l ≠ 0) := fun z => cz (hL.z z)
    by_cases c1 : e < -100000
    · have fin : Hid (joinV false (natV l) e L more = signI false) := by
        unfold Hid joinV
        rw [if_pos (.inr (by omega))]
      have c2 : e + L < -2000 := by omega
      clear cz hL
      go_wp2
      go_ret
      exact ⟨L, HLI.out, by rw [fin.out, sg.out]; rfl, hB⟩
    · have J := Lib.hid (round_join (neg := false) (more := more) (e := e) hL vz.out)
      by_cases c2 : 2000 < e
      · have hU : 972 ≤ placeI e L := by unfold placeI; omega
        have fin := Lib.hid (J.out.trans (out_inf (signI false) _ _ hU))
        clear cz hL
        go_wp2
        go_ret
        exact ⟨L, HLI.out, by rw [fin.out, sg.out]; rfl, hB⟩
      · obtain ⟨F1, F2, F3⟩ := pack_facts (e := e) more hL vz.out
        have hUu : Hid (placeI e L = max (e + L - 53) (-1074)) := rfl
        have U0 := place_lo e L
        have U1 : placeI e L ≤ 98000 := by unfold placeI; omega
        have FB := Lib.hid F3
        clear F3 cz hL
        obtain ⟨U, hU⟩ : ∃ U, placeI e L = U := ⟨_, rfl⟩
        rw [hU] at F1 F2 FB U0 U1 hUu J
        have HM : Hid (∃ M, packV (natV l) (U - e) more = M) := ⟨_, rfl⟩
        obtain ⟨M, hM⟩ := HM.out
        rw [hM] at F1 F2 FB J
        have HM := Lib.hid hM
        clear hM hU
        go_upto_if 41 with fail
        go_cut [11] (fun u wx => u = .int .i64 U ∧ w1 = wx)
        case first =>
          by_cases c3 : e + L - 53 < -1074
          · have eU : Hid (U = -1074) := by unfold Hid; rw [hUu.out]; omega
            go_wp2
            go_meet
            exact ⟨by rw [eU.out], by first | trivial | rfl⟩
          · have eU : Hid (U = e + L - 53) := by unfold Hid; rw [hUu.out]; omega
            go_wp2
            go_meet
            exact ⟨by rw [eU.out], by first | trivial | rfl⟩
        case rest =>
          obtain ⟨rfl, rfl⟩ := hcut
          go_upto_if 44 with fail
          go_cut [12] (fun m wx => m = .int .u64 M ∧ Below w.heap.size w wx)
          case first =>
            by_cases c5 : U ≤ e
            · have hp : Hid (M = natV l * pw (e - U)) := by unfold Hid; rw [← HM.out]; exact pack_up more c5
              have CU := Lib.hid (rup_any A n c l (e - U) w1 HA1.out (by omega) (by omega) (by omega))
              have s1 : 0 ≤ e - U := by omega
              clear FB J
              go_wp2_with fail
              refine CU.out.mono ?_
              rintro en w2 ⟨A2, n2, c2, l2, rfl, hs2, hn2, hv2, fr2, hb2⟩
              have CF := Lib.hid (rfrom_any A2 n2 c2 l2 0 w2 hs2 (by decide) (by decide))
              have hv : Hid (natV l2 / pw 0 % 18446744073709551616 = M) := by
                unfold Hid
                rw [show pw 0 = 1 from rfl, Int.ediv_one, hv2, ← hp.out]; omega
              have hB2 := hB.trans (hb2.mono hB.size)
              rw [hv.out] at CF
              clear hs2 hn2 hv2 fr2 hb2 CU
              go_wp2_with fail
              refine CF.out.mono ?_
              rintro en w' ⟨rfl, rfl⟩
              go_wp2
              go_meet
              exact ⟨rfl, hB2⟩
            · have hk0 : 1 ≤ U - e := by omega
              have hk1 : U - e ≤ 300000 := by omega
              obtain ⟨k, hk⟩ : ∃ k, U - e = k := ⟨_, rfl⟩
              have CF := Lib.hid (rfrom_any A n c l k w1 HA1.out (by omega) (by omega))
              have CB := Lib.hid (bit_any A n c l (k - 1) w1 HA1.out (by omega) (by omega))
              have CLo := Lib.hid (rlow_any A n c l (k - 1) w1 HA1.out (by omega) (by omega) (by omega))
              have hr : M = roundI (natV l) k more := by rw [← HM.out, ← hk]; exact pack_dn more (by omega)
              unfold roundI at hr
              rw [half_bit _ _ (by omega)] at hr
              have q0 : 0 ≤ natV l / pw k := Int.ediv_nonneg HLI.out.v0 (Int.le_of_lt (pw_pos k))
              have q1 : natV l / pw k ≤ M := by rw [hr]; split <;> omega
              have em : natV l / pw k % 18446744073709551616 = natV l / pw k := by omega
              rw [em] at CF
              have dl : decide (natV l % pw (k - 1) ≠ 0) = (natV l % pw (k - 1) != 0) := dec_ne _
              rw [dl] at CLo
              have hr := Lib.hid hr
              generalize natV l / pw k = q at *
              generalize bitV (natV l) (k - 1) = hb at *
              generalize (natV l % pw (k - 1) != 0) = lw at *
              have c5' : ¬ U ≤ e := c5
              clear em dl FB J
              have rest : Hid (∀ x : Int, x = M → Value.int .u64 x = .int .u64 M) := fun x hx => by rw [hx]
              by_cases od : q % 2 = 1
              · have od1 : (q % 2 == 1) = true := by simpa using od
                have od2 : (q % 2 != 0) = true := by simp; omega
                rw [od2] at hr
                have od := Lib.hid od
                clear od2
                cases hb <;> cases lw <;> cases more
                all_goals
                  have hr : M = _ := hr.out
                  simp at hr
                  have hr := Lib.hid hr
                  go_wp2_with fail
                  refine CF.out.mono ?_
                  rintro en w' ⟨rfl, rfl⟩
                  go_wp2_with fail
                  refine CB.out.mono ?_
                  rintro en w' ⟨rfl, rfl⟩
                  go_wp2_with fail
                  refine CLo.out.mono ?_
                  rintro en w' ⟨rfl, rfl⟩
                  go_wp2
                  go_meet
                  exact ⟨rest.out _ hr.out.symm, hB⟩
              · have od1 : (q % 2 == 1) = false := by simpa using od
                have od2 : (q % 2 != 0) = false := by simp; omega
                rw [od2] at hr
                have od := Lib.hid od
                clear od2
                cases hb <;> cases lw <;> cases more
                all_goals
                  have hr : M = _ := hr.out
                  simp at hr
                  have hr := Lib.hid hr
                  go_wp2_with fail
                  refine CF.out.mono ?_
                  rintro en w' ⟨rfl, rfl⟩
                  go_wp2_with fail
                  refine CB.out.mono ?_
                  rintro en w' ⟨rfl, rfl⟩
                  go_wp2_with fail
                  refine CLo.out.mono ?_
                  rintro en w' ⟨rfl, rfl⟩
                  go_wp2
                  go_meet
                  exact ⟨rest.out _ hr.out.symm, hB⟩
          case rest =>
            obtain ⟨rfl, hB⟩ := hcut
            clear HA HA1 HL HM hlt hUu
            rcases Int.lt_trichotomy M 9007199254740992 with cM | cM | cM
            · have m1 : (M == 9007199254740992) = false := by simp; omega
              by_cases cS : M < 4503599627370496
              · have eU : U = -1074 := FB.out cS
                have fin : Hid (joinV false (natV l) e L more = 0 + M) := by unfold Hid; rw [J.out, eU, sg.out]; exact out_small _ _
                clear J FB eU
                go_wp2
                go_ret
                exact ⟨L, HLI.out, by rw [fin.out]; first | rfl | (simp only [Int.zero_add]; rfl), hB⟩
              · by_cases cU : 972 ≤ U
                · have fin : Hid (joinV false (natV l) e L more = 0 + 9218868437227405312) := by unfold Hid; rw [J.out, sg.out]; exact out_inf _ _ _ cU
                  clear J FB
                  go_wp2
                  go_ret
                  exact ⟨L, HLI.out, by rw [fin.out]; first | rfl | (simp only [Int.zero_add]; rfl), hB⟩
                · have fin : Hid (joinV false (natV l) e L more = 0 + (U + 1075) * 4503599627370496 + M - 4503599627370496) := by unfold Hid; rw [J.out, sg.out]; exact out_plain _ _ _ (by omega)
                  clear J FB
                  go_wp2
                  go_ret
                  exact ⟨L, HLI.out, by rw [fin.out]; first | rfl | (simp only [Int.zero_add]; rfl), hB⟩
            · have m1 : (M == 9007199254740992) = true := by simpa using cM
              by_cases cU : 971 ≤ U
              · have fin : Hid (joinV false (natV l) e L more = 0 + 9218868437227405312) := by unfold Hid; rw [J.out, sg.out, cM]; exact out_big _ _ cU
                have cM := Lib.hid cM
                clear J FB
                go_wp2
                go_ret
                exact ⟨L, HLI.out, by rw [fin.out]; first | rfl | (simp only [Int.zero_add]; rfl), hB⟩
              · have fin : Hid (joinV false (natV l) e L more = 0 + (U + 1 + 1075) * 4503599627370496) := by unfold Hid; rw [J.out, sg.out, cM]; exact out_carry _ _ (by omega)
                have cM := Lib.hid cM
                clear J FB
                go_wp2
                go_ret
                exact ⟨L, HLI.out, by rw [fin.out]; first | rfl | (simp only [Int.zero_add]; rfl), hB⟩
            · omega

set_option maxRecDepth 100000 in
set_option maxHeartbeats 8000000 in
theorem rround_true (A : Option Addr) (n c : Nat) (l : List Int) (e : Int) (more : Bool) (w : World) (h : Sl w w.heap.size A n c l) (hn : n ≤ 3000) (he0 : -9223372036854775808 ≤ e) (he1 : e ≤ 9223372036854775807) :
    Calls Tryd.prog 46 #[.bool true, .slice A n c, .int .i64 e, .bool more] w (RoundPost true (natV l) e more w) := by
  have HL := Lib.hid (rlen_any A n c l w h (by omega))
  have HA := Lib.hid h
  have hlt : Hid (natV l < pw (32 * (n : Int))) := by rw [← h.len]; exact natV_lt h.lim
  have bn : (n : Int) ≤ 3000 := by omega
  clear h
  have sg : Hid (signI true = 9223372036854775808) := rfl
  go_enter Tryd.func46, Tryd.ntmps46
  go_wp2_with fail
  refine HL.out.mono ?_
  rintro en w1 ⟨L, hL, rfl, hb1⟩
  have L0 := hL.n0
  have L1 : L ≤ 96000 := by
    by_cases z : natV l = 0
    · rw [hL.z z]; decide
    · have h1 := hL.ge z
      have h2 := hlt.out
      have h3 : pw L < pw (32 * (n : Int) + 1) := by rw [pw_succ _ (by omega)]; omega
      have := pw_inj_le (a := L) (by omega) h3
      omega
  have HLI := Lib.hid hL
  have HA1 := Lib.hid (HA.out.on hb1)
  have hB := hb1
  by_cases cz : L = 0
  · have cz1 : (L == 0) = true := by simpa using cz
    have v0 : natV l = 0 := by
      rcases Int.lt_or_le 0 (natV l) with g | g
      · have := hL.lt; rw [cz, show pw 0 = 1 from rfl] at this; omega
      · have := hL.v0; omega
    have fin : Hid (joinV true (natV l) e L more = signI true) := by
      unfold Hid joinV
      rw [if_pos (.inl v0)]
    have v0 := Lib.hid v0
    have cz2 := Lib.hid cz
    clear cz hL
    go_wp2
    go_ret
    exact ⟨L, HLI.out, by rw [fin.out, sg.out]; rfl, hB⟩
  · have cz1 : (L == 0) = false := by simpa using cz
    have vz : Hid (natV l ≠ 0) := fun z => cz (hL.z z)
    by_cases c1 : e < -100000
    · have fin : Hid (joinV true (natV l) e L more = signI true) := by
        unfold Hid joinV
        rw [if_pos (.inr (by omega))]
      have c2 : e + L < -2000 := by omega
      clear cz hL
      go_wp2
      go_ret
      exact ⟨L, HLI.out, by rw [fin.out, sg.out]; rfl, hB⟩
    · have J := Lib.hid (round_join (neg := true) (more := more) (e := e) hL vz.out)
      by_cases c2 : 2000 < e
      · have hU : 972 ≤ placeI e L := by unfold placeI; omega
        have fin := Lib.hid (J.out.trans (out_inf (signI true) _ _ hU))
        clear cz hL
        go_wp2
        go_ret
        exact ⟨L, HLI.out, by rw [fin.out, sg.out]; rfl, hB⟩
      · obtain ⟨F1, F2, F3⟩ := pack_facts (e := e) more hL vz.out
        have hUu : Hid (placeI e L = max (e + L - 53) (-1074)) := rfl
        have U0 := place_lo e L
        have U1 : placeI e L ≤ 98000 := by unfold placeI; omega
        have FB := Lib.hid F3
        clear F3 cz hL
        obtain ⟨U, hU⟩ : ∃ U, placeI e L = U := ⟨_, rfl⟩
        rw [hU] at F1 F2 FB U0 U1 hUu J
        have HM : Hid (∃ M, packV (natV l) (U - e) more = M) := ⟨_, rfl⟩
        obtain ⟨M, hM⟩ := HM.out
        rw [hM] at F1 F2 FB J
        have HM := Lib.hid hM
        clear hM hU
        go_upto_if 41 with fail
        go_cut [11] (fun u wx => u = .int .i64 U ∧ w1 = wx)
        case first =>
          by_cases c3 : e + L - 53 < -1074
          · have eU : Hid (U = -1074) := by unfold Hid; rw [hUu.out]; omega
            go_wp2
            go_meet
            exact ⟨by rw [eU.out], by first | trivial | rfl⟩
          · have eU : Hid (U = e + L - 53) := by unfold Hid; rw [hUu.out]; omega
            go_wp2
            go_meet
            exact ⟨by rw [eU.out], by first | trivial | rfl⟩
        case rest =>
          obtain ⟨rfl, rfl⟩ := hcut
          go_upto_if 44 with fail
          go_cut [12] (fun m wx => m = .int .u64 M ∧ Below w.heap.size w wx)
          case first =>
            by_cases c5 : U ≤ e
            · have hp : Hid (M = natV l * pw (e - U)) := by unfold Hid; rw [← HM.out]; exact pack_up more c5
              have CU := Lib.hid (rup_any A n c l (e - U) w1 HA1.out (by omega) (by omega) (by omega))
              have s1 : 0 ≤ e - U := by omega
              clear FB J
              go_wp2_with fail
              refine CU.out.mono ?_
              rintro en w2 ⟨A2, n2, c2, l2, rfl, hs2, hn2, hv2, fr2, hb2⟩
              have CF := Lib.hid (rfrom_any A2 n2 c2 l2 0 w2 hs2 (by decide) (by decide))
              have hv : Hid (natV l2 / pw 0 % 18446744073709551616 = M) := by
                unfold Hid
                rw [show pw 0 = 1 from rfl, Int.ediv_one, hv2, ← hp.out]; omega
              have hB2 := hB.trans (hb2.mono hB.size)
              rw [hv.out] at CF
              clear hs2 hn2 hv2 fr2 hb2 CU
              go_wp2_with fail
              refine CF.out.mono ?_
              rintro en w' ⟨rfl, rfl⟩
              go_wp2
              go_meet
              exact ⟨rfl, hB2⟩
            · have hk0 : 1 ≤ U - e := by omega
              have hk1 : U - e ≤ 300000 := by omega
              obtain ⟨k, hk⟩ : ∃ k, U - e = k := ⟨_, rfl⟩
              have CF := Lib.hid (rfrom_any A n c l k w1 HA1.out (by omega) (by omega))
              have CB := Lib.hid (bit_any A n c l (k - 1) w1 HA1.out (by omega) (by omega))
              have CLo := Lib.hid (rlow_any A n c l (k - 1) w1 HA1.out (by omega) (by omega) (by omega))
              have hr : M = roundI (natV l) k more := by rw [← HM.out, ← hk]; exact pack_dn more (by omega)
              unfold roundI at hr
              rw [half_bit _ _ (by omega)] at hr
              have q0 : 0 ≤ natV l / pw k := Int.ediv_nonneg HLI.out.v0 (Int.le_of_lt (pw_pos k))
              have q1 : natV l / pw k ≤ M := by rw [hr]; split <;> omega
              have em : natV l / pw k % 18446744073709551616 = natV l / pw k := by omega
              rw [em] at CF
              have dl : decide (natV l % pw (k - 1) ≠ 0) = (natV l % pw (k - 1) != 0) := dec_ne _
              rw [dl] at CLo
              have hr := Lib.hid hr
              generalize natV l / pw k = q at *
              generalize bitV (natV l) (k - 1) = hb at *
              generalize (natV l % pw (k - 1) != 0) = lw at *
              have c5' : ¬ U ≤ e := c5
              clear em dl FB J
              have rest : Hid (∀ x : Int, x = M → Value.int .u64 x = .int .u64 M) := fun x hx => by rw [hx]
              by_cases od : q % 2 = 1
              · have od1 : (q % 2 == 1) = true := by simpa using od
                have od2 : (q % 2 != 0) = true := by simp; omega
                rw [od2] at hr
                have od := Lib.hid od
                clear od2
                cases hb <;> cases lw <;> cases more
                all_goals
                  have hr : M = _ := hr.out
                  simp at hr
                  have hr := Lib.hid hr
                  go_wp2_with fail
                  refine CF.out.mono ?_
                  rintro en w' ⟨rfl, rfl⟩
                  go_wp2_with fail
                  refine CB.out.mono ?_
                  rintro en w' ⟨rfl, rfl⟩
                  go_wp2_with fail
                  refine CLo.out.mono ?_
                  rintro en w' ⟨rfl, rfl⟩
                  go_wp2
                  go_meet
                  exact ⟨rest.out _ hr.out.symm, hB⟩
              · have od1 : (q % 2 == 1) = false := by simpa using od
                have od2 : (q % 2 != 0) = false := by simp; omega
                rw [od2] at hr
                have od := Lib.hid od
                clear od2
                cases hb <;> cases lw <;> cases more
                all_goals
                  have hr : M = _ := hr.out
                  simp at hr
                  have hr := Lib.hid hr
                  go_wp2_with fail
                  refine CF.out.mono ?_
                  rintro en w' ⟨rfl, rfl⟩
                  go_wp2_with fail
                  refine CB.out.mono ?_
                  rintro en w' ⟨rfl, rfl⟩
                  go_wp2_with fail
                  refine CLo.out.mono ?_
                  rintro en w' ⟨rfl, rfl⟩
                  go_wp2
                  go_meet
                  exact ⟨rest.out _ hr.out.symm, hB⟩
          case rest =>
            obtain ⟨rfl, hB⟩ := hcut
            clear HA HA1 HL HM hlt hUu
            rcases Int.lt_trichotomy M 9007199254740992 with cM | cM | cM
            · have m1 : (M == 9007199254740992) = false := by simp; omega
              by_cases cS : M < 4503599627370496
              · have eU : U = -1074 := FB.out cS
                have fin : Hid (joinV true (natV l) e L more = 9223372036854775808 + M) := by unfold Hid; rw [J.out, eU, sg.out]; exact out_small _ _
                clear J FB eU
                go_wp2
                go_ret
                exact ⟨L, HLI.out, by rw [fin.out]; first | rfl | (simp only [Int.zero_add]; rfl), hB⟩
              · by_cases cU : 972 ≤ U
                · have fin : Hid (joinV true (natV l) e L more = 9223372036854775808 + 9218868437227405312) := by unfold Hid; rw [J.out, sg.out]; exact out_inf _ _ _ cU
                  clear J FB
                  go_wp2
                  go_ret
                  exact ⟨L, HLI.out, by rw [fin.out]; first | rfl | (simp only [Int.zero_add]; rfl), hB⟩
                · have fin : Hid (joinV true (natV l) e L more = 9223372036854775808 + (U + 1075) * 4503599627370496 + M - 4503599627370496) := by unfold Hid; rw [J.out, sg.out]; exact out_plain _ _ _ (by omega)
                  clear J FB
                  go_wp2
                  go_ret
                  exact ⟨L, HLI.out, by rw [fin.out]; first | rfl | (simp only [Int.zero_add]; rfl), hB⟩
            · have m1 : (M == 9007199254740992) = true := by simpa using cM
              by_cases cU : 971 ≤ U
              · have fin : Hid (joinV true (natV l) e L more = 9223372036854775808 + 9218868437227405312) := by unfold Hid; rw [J.out, sg.out, cM]; exact out_big _ _ cU
                have cM := Lib.hid cM
                clear J FB
                go_wp2
                go_ret
                exact ⟨L, HLI.out, by rw [fin.out]; first | rfl | (simp only [Int.zero_add]; rfl), hB⟩
              · have fin : Hid (joinV true (natV l) e L more = 9223372036854775808 + (U + 1 + 1075) * 4503599627370496) := by unfold Hid; rw [J.out, sg.out, cM]; exact out_carry _ _ (by omega)
                have cM := Lib.hid cM
                clear J FB
                go_wp2
                go_ret
                exact ⟨L, HLI.out, by rw [fin.out]; first | rfl | (simp only [Int.zero_add]; rfl), hB⟩
            · omega

theorem rround_any (neg : Bool) (A : Option Addr) (n c : Nat) (l : List Int) (e : Int) (more : Bool) (w : World) (h : Sl w w.heap.size A n c l) (hn : n ≤ 3000) (he0 : -9223372036854775808 ≤ e) (he1 : e ≤ 9223372036854775807) :
    Calls Tryd.prog 46 #[.bool neg, .slice A n c, .int .i64 e, .bool more] w (RoundPost neg (natV l) e more w) := by
  cases neg
  · exact rround_false A n c l e more w h hn he0 he1
  · exact rround_true A n c l e more w h hn he0 he1
end Go.Proofs.YtnefacnceemklaaDoor

