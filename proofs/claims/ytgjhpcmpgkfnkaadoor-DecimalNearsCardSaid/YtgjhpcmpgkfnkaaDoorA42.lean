/-
  Decimals av numbers: their order.
-/
import Derived.Test.YtgjhpcmpgkfnkaaDoorA41
namespace Go.Proofs.YtgjhpcmpgkfnkaaDoor
open Go.RowKit Go.Shelf

/-- The number of a row of digits. -/
def natD : List UInt8 → Nat
  | [] => 0
  | b :: l => (b.toNat - 48) * 10 ^ l.length + natD l
theorem natD_app : ∀ a b : List UInt8, natD (a ++ b) = natD a * 10 ^ b.length + natD b
  | [], b => by simp [natD]
  | c :: a, b => by
    show (c.toNat - 48) * 10 ^ (a ++ b).length + natD (a ++ b) = ((c.toNat - 48) * 10 ^ a.length + natD a) * 10 ^ b.length + natD b
    rw [natD_app a b, List.length_append, Nat.pow_add, Nat.add_mul, Nat.mul_assoc, Nat.add_assoc]
theorem natD_lt : ∀ l : List UInt8, l.all dgB = true → natD l < 10 ^ l.length
  | [], _ => by simp [natD]
  | b :: l, h => by
    rw [List.all_cons, Bool.and_eq_true] at h
    have hb := dgB_le h.1
    have ih := natD_lt l h.2
    show (b.toNat - 48) * 10 ^ l.length + natD l < 10 ^ (l.length + 1)
    rw [Nat.pow_succ]
    have h1 : (b.toNat - 48) * 10 ^ l.length ≤ 9 * 10 ^ l.length := Nat.mul_le_mul_right _ (by omega)
    generalize (b.toNat - 48) * 10 ^ l.length = X at *
    generalize 10 ^ l.length = P at *
    omega
theorem natD_zeros : ∀ n : Nat, natD (List.replicate n 48) = 0
  | 0 => rfl
  | n + 1 => by
    show ((48 : UInt8).toNat - 48) * 10 ^ (List.replicate n (48 : UInt8)).length + natD (List.replicate n 48) = 0
    rw [natD_zeros n]; simp
theorem natD_lo {l : List UInt8} (hd : l.all dgB = true) (h0 : l ≠ []) (h : B l 0 ≠ 48) : 10 ^ (l.length - 1) ≤ natD l := by
  cases l with
  | nil => exact absurd rfl h0
  | cons b l =>
    rw [List.all_cons, Bool.and_eq_true] at hd
    have hb := dgB_le hd.1
    have h1 : (b.toNat : Int) ≠ 48 := h
    show 10 ^ l.length ≤ (b.toNat - 48) * 10 ^ l.length + natD l
    have h2 : 1 * 10 ^ l.length ≤ (b.toNat - 48) * 10 ^ l.length := Nat.mul_le_mul_right _ (by omega)
    rw [Nat.one_mul] at h2
    exact Nat.le_trans h2 (Nat.le_add_right _ _)
def cmpN (u v : Nat) : Int := if u < v then -1 else if v < u then 1 else 0
theorem cmpN_mul (u v : Nat) {c : Nat} (h : 0 < c) : cmpN (u * c) (v * c) = cmpN u v := by
  unfold cmpN
  have e1 : u * c < v * c ↔ u < v := Nat.mul_lt_mul_right h
  have e2 : v * c < u * c ↔ v < u := Nat.mul_lt_mul_right h
  simp only [e1, e2]
theorem cmpN_lex (A B TA TB : Nat) {P : Nat} (hA : TA < P) (hB : TB < P) : cmpN (A * P + TA) (B * P + TB) = if A < B then -1 else if B < A then 1 else cmpN TA TB := by
  have key : ∀ a b t u : Nat, a < b → t < P → a * P + t < b * P + u := fun a b t u h ht => by
    have h1 : (a + 1) * P ≤ b * P := Nat.mul_le_mul_right _ h
    rw [Nat.add_mul, Nat.one_mul] at h1
    omega
  rcases Nat.lt_trichotomy A B with h | h | h
  · rw [if_pos h]; exact if_pos (key A B TA TB h hA)
  · subst h
    rw [if_neg (Nat.lt_irrefl _), if_neg (Nat.lt_irrefl _)]
    unfold cmpN
    have e1 : A * P + TA < A * P + TB ↔ TA < TB := by omega
    have e2 : A * P + TB < A * P + TA ↔ TB < TA := by omega
    simp only [e1, e2]
  · rw [if_neg (by omega), if_pos h]
    have h1 := key B A TB TA h hB
    unfold cmpN
    rw [if_neg (by omega), if_pos h1]
theorem head_val {b : UInt8} {l : List UInt8} {n : Nat} (hd : l.all dgB = true) (h : l.length ≤ n) : natD (b :: l) * 10 ^ (n + 1 - (b :: l).length) = (b.toNat - 48) * 10 ^ n + natD l * 10 ^ (n - l.length) ∧ natD l * 10 ^ (n - l.length) < 10 ^ n := by
  have e : 10 ^ l.length * 10 ^ (n - l.length) = 10 ^ n := by rw [← Nat.pow_add, show l.length + (n - l.length) = n by omega]
  constructor
  · rw [List.length_cons, show n + 1 - (l.length + 1) = n - l.length by omega]
    show ((b.toNat - 48) * 10 ^ l.length + natD l) * 10 ^ (n - l.length) = _
    rw [Nat.add_mul, Nat.mul_assoc, e]
  · rw [← e]
    exact Nat.mul_lt_mul_of_pos_right (natD_lt l hd) (Nat.pow_pos (by decide))
theorem cmpP_val : ∀ (n : Nat) (a b : List UInt8), a.all dgB = true → b.all dgB = true → a.length ≤ n → b.length ≤ n → cmpP a b = cmpN (natD a * 10 ^ (n - a.length)) (natD b * 10 ^ (n - b.length))
  | 0, a, b, _, _, h1, h2 => by
    have e1 : a = [] := List.eq_nil_of_length_eq_zero (by omega)
    have e2 : b = [] := List.eq_nil_of_length_eq_zero (by omega)
    subst e1; subst e2; simp [cmpP, cmpN, natD]
  | n + 1, [], [], _, _, _, _ => by simp [cmpP, cmpN, natD]
  | n + 1, [], b :: bs, _, hb, _, h2 => by
    rw [List.all_cons, Bool.and_eq_true] at hb
    have hb1 := dgB_le hb.1
    have hl : bs.length ≤ n := by simpa using h2
    have ih := cmpP_val n [] bs rfl hb.2 (Nat.zero_le _) hl
    obtain ⟨v1, v2⟩ := head_val (b := b) hb.2 hl
    have lx := cmpN_lex 0 (b.toNat - 48) 0 (natD bs * 10 ^ (n - bs.length)) (Nat.pow_pos (n := n) (a := 10) (by decide)) v2
    have z1 : natD [] * 10 ^ (n - ([] : List UInt8).length) = 0 := by simp [natD]
    have z2 : natD [] * 10 ^ (n + 1 - ([] : List UInt8).length) = 0 * 10 ^ n + 0 := by simp [natD]
    rw [z1] at ih
    have e0 : cmpP [] (b :: bs) = if (48 : UInt8) < b then -1 else cmpP [] bs := by rw [cmpP]
    rw [v1, z2, lx, ← ih, e0]
    have e : (48 : UInt8) < b ↔ 0 < b.toNat - 48 := by rw [UInt8.lt_iff_toNat_lt]; show 48 < b.toNat ↔ _; omega
    by_cases h : (48 : UInt8) < b
    · rw [if_pos h, if_pos (e.1 h)]
    · rw [if_neg h, if_neg (fun q => h (e.2 q)), if_neg (by omega)]
  | n + 1, a :: av, [], ha, _, h1, _ => by
    rw [List.all_cons, Bool.and_eq_true] at ha
    have ha1 := dgB_le ha.1
    have hl : av.length ≤ n := by simpa using h1
    have ih := cmpP_val n av [] ha.2 rfl hl (Nat.zero_le _)
    obtain ⟨v1, v2⟩ := head_val (b := a) ha.2 hl
    have lx := cmpN_lex (a.toNat - 48) 0 (natD av * 10 ^ (n - av.length)) 0 v2 (Nat.pow_pos (n := n) (a := 10) (by decide))
    have z1 : natD [] * 10 ^ (n - ([] : List UInt8).length) = 0 := by simp [natD]
    have z2 : natD [] * 10 ^ (n + 1 - ([] : List UInt8).length) = 0 * 10 ^ n + 0 := by simp [natD]
    rw [z1] at ih
    have e0 : cmpP (a :: av) [] = if (48 : UInt8) < a then 1 else cmpP av [] := by rw [cmpP]
    rw [v1, z2, lx, ← ih, e0]
    have e : (48 : UInt8) < a ↔ 0 < a.toNat - 48 := by rw [UInt8.lt_iff_toNat_lt]; show 48 < a.toNat ↔ _; omega
    by_cases h : (48 : UInt8) < a
    · rw [if_pos h, if_neg (by omega), if_pos (e.1 h)]
    · rw [if_neg h, if_neg (by omega), if_neg (fun q => h (e.2 q))]
  | n + 1, a :: av, b :: bs, ha, hb, h1, h2 => by
    rw [List.all_cons, Bool.and_eq_true] at ha hb
    have ha1 := dgB_le ha.1; have hb1 := dgB_le hb.1
    have hla : av.length ≤ n := by simpa using h1
    have hlb : bs.length ≤ n := by simpa using h2
    have ih := cmpP_val n av bs ha.2 hb.2 hla hlb
    obtain ⟨v1, v2⟩ := head_val (b := a) ha.2 hla
    obtain ⟨u1, u2⟩ := head_val (b := b) hb.2 hlb
    have lx := cmpN_lex (a.toNat - 48) (b.toNat - 48) _ _ v2 u2
    have e0 : cmpP (a :: av) (b :: bs) = if a < b then -1 else if b < a then 1 else cmpP av bs := by rw [cmpP]
    rw [v1, u1, lx, ← ih, e0]
    have e : a < b ↔ a.toNat - 48 < b.toNat - 48 := by rw [UInt8.lt_iff_toNat_lt]; omega
    have e2 : b < a ↔ b.toNat - 48 < a.toNat - 48 := by rw [UInt8.lt_iff_toNat_lt]; omega
    simp only [e, e2]
/-- A decimal's number, a hundred thousand places up. -/
def vD (l : List UInt8) (x : Int) : Nat := natD l * 10 ^ (x + 100000).toNat
theorem vD_nil (x : Int) : vD [] x = 0 := by simp [vD, natD]
theorem RD.right {l : List UInt8} {x : Int} (h : RD l x) : rightV l x = true := by
  unfold rightV
  rw [if_neg h.ne]
  simp only [Bool.and_eq_true, decide_eq_true_eq]
  exact ⟨h.len, h.dg, h.hd, h.la, h.x0, h.x1⟩
theorem vD_hi {l : List UInt8} {x : Int} (h : RD l x) : vD l x < 10 ^ (l.length + (x + 100000).toNat) := by
  unfold vD; rw [Nat.pow_add]
  exact Nat.mul_lt_mul_of_pos_right (natD_lt l h.dg) (Nat.pow_pos (by decide))
theorem vD_lo {l : List UInt8} {x : Int} (h : RD l x) : 10 ^ (l.length - 1 + (x + 100000).toNat) ≤ vD l x := by
  unfold vD; rw [Nat.pow_add]
  exact Nat.mul_le_mul_right _ (natD_lo h.dg h.ne h.hd)
theorem vD_pos {l : List UInt8} {x : Int} (h : RD l x) : 0 < vD l x := Nat.lt_of_lt_of_le (Nat.pow_pos (by decide)) (vD_lo h)
theorem point_lt {l m : List UInt8} {x y : Int} (h : RD l x) (g : RD m y) (hp : (l.length : Int) + x < m.length + y) : vD l x < vD m y := by
  have hx := h.x0; have hy := g.x0
  have hm : m.length ≠ 0 := fun e => g.ne (List.eq_nil_of_length_eq_zero e)
  refine Nat.lt_of_lt_of_le (vD_hi h) (Nat.le_trans ?_ (vD_lo g))
  exact Nat.pow_le_pow_right (by decide) (by omega)
theorem size_val {l m : List UInt8} {x y : Int} (h : RD l x) (g : RD m y) : sizeV l x m y = cmpN (vD l x) (vD m y) := by
  have p1 : pointV l x = (l.length : Int) + x := by unfold pointV; rw [if_pos h.right]
  have p2 : pointV m y = (m.length : Int) + y := by unfold pointV; rw [if_pos g.right]
  unfold sizeV
  rw [p1, p2]
  by_cases h1 : (l.length : Int) + x < m.length + y
  · rw [if_pos h1]; exact (if_pos (point_lt h g h1)).symm
  · rw [if_neg h1]
    by_cases h2 : (m.length : Int) + y < l.length + x
    · rw [if_pos h2]
      have h3 := point_lt g h h2
      unfold cmpN
      rw [if_neg (by omega), if_pos h3]
    · rw [if_neg h2, cmpB_right h.right g.right]
      obtain ⟨n, hn⟩ : ∃ n, max l.length m.length = n := ⟨_, rfl⟩
      have hx := h.x0; have hy := g.x0
      rw [cmpP_val n l m h.dg g.dg (by omega) (by omega)]
      obtain ⟨c, hc⟩ : ∃ c, (x + 100000).toNat = (n - l.length) + c := ⟨(x + 100000).toNat - (n - l.length), by omega⟩
      have hc2 : (y + 100000).toNat = (n - m.length) + c := by omega
      unfold vD
      rw [hc, hc2, Nat.pow_add, Nat.pow_add, ← Nat.mul_assoc, ← Nat.mul_assoc, cmpN_mul _ _ (Nat.pow_pos (by decide))]
def sD (b : Bool) (l : List UInt8) (x : Int) : Int := if b = true then -(vD l x : Int) else (vD l x : Int)
def cmpI (a b : Int) : Int := if a < b then -1 else if b < a then 1 else 0
theorem cmpI_nat (u v : Nat) : cmpI (u : Int) (v : Int) = cmpN u v := by
  unfold cmpI cmpN
  have e1 : (u : Int) < (v : Int) ↔ u < v := by omega
  have e2 : (v : Int) < (u : Int) ↔ v < u := by omega
  simp only [e1, e2]
theorem cmpI_neg (u v : Nat) : cmpI (-(u : Int)) (-(v : Int)) = cmpN v u := by
  unfold cmpI cmpN
  have e1 : -(u : Int) < -(v : Int) ↔ v < u := by omega
  have e2 : -(v : Int) < -(u : Int) ↔ u < v := by omega
  simp only [e1, e2]
theorem cmpI_range (a b : Int) : cmpI a b = -cmpI b a := by
  unfold cmpI
  by_cases h : a < b
  · rw [if_pos h, if_neg (by omega), if_pos h]
  · rw [if_neg h]
    by_cases h2 : b < a
    · rw [if_pos h2, if_pos h2]; rfl
    · rw [if_neg h2, if_neg h2, if_neg h]; rfl
theorem cmpI_le {a b : Int} : cmpI a b ≤ 0 ↔ a ≤ b := by
  unfold cmpI
  by_cases h : a < b
  · rw [if_pos h]; omega
  · rw [if_neg h]
    by_cases h2 : b < a
    · rw [if_pos h2]; omega
    · rw [if_neg h2]; omega
theorem cmpI_eq {a b : Int} : cmpI a b = 0 ↔ a = b := by
  unfold cmpI
  by_cases h : a < b
  · rw [if_pos h]; omega
  · rw [if_neg h]
    by_cases h2 : b < a
    · rw [if_pos h2]; omega
    · rw [if_neg h2]; omega
/-- The order of right decimals is the order of their numbers. -/
theorem cmp_val (b : Bool) (l : List UInt8) (x : Int) (c : Bool) (m : List UInt8) (y : Int) (h : rightV l x = true) (g : rightV m y = true) : cmpV b l x c m y = cmpI (sD b l x) (sD c m y) := by
  have e : cmpV b l x c m y = if sgnV b l < sgnV c m then -1 else if sgnV c m < sgnV b l then 1 else if sgnV b l < 0 then sizeV m y l x else sizeV l x m y := by
    unfold cmpV; rw [h, g]; rfl
  rw [e]
  by_cases hl : l = []
  · subst hl
    have s1 : sgnV b [] = 0 := if_pos rfl
    have d1 : sD b [] x = 0 := by unfold sD; rw [vD_nil]; cases b <;> rfl
    rw [s1, d1]
    by_cases hm : m = []
    · subst hm
      have s2 : sgnV c [] = 0 := if_pos rfl
      have d2 : sD c [] y = 0 := by unfold sD; rw [vD_nil]; cases c <;> rfl
      rw [s2, d2]
      have x0 : x = 0 := of_decide_eq_true h
      have y0 : y = 0 := of_decide_eq_true g
      subst x0; subst y0
      rfl
    · have g2 := vD_pos (RD.of g hm)
      cases c with
      | true =>
        have s2 : sgnV true m = -1 := (if_neg hm).trans rfl
        have d2 : sD true m y = -(vD m y : Int) := rfl
        rw [s2, d2]
        unfold cmpI
        rw [if_neg (by omega), if_pos (by omega), if_neg (by omega), if_pos (by omega)]
      | false =>
        have s2 : sgnV false m = 1 := (if_neg hm).trans rfl
        have d2 : sD false m y = (vD m y : Int) := rfl
        rw [s2, d2]
        unfold cmpI
        rw [if_pos (by omega), if_pos (by omega)]
  · have h2 := vD_pos (RD.of h hl)
    by_cases hm : m = []
    · subst hm
      have s2 : sgnV c [] = 0 := if_pos rfl
      have d2 : sD c [] y = 0 := by unfold sD; rw [vD_nil]; cases c <;> rfl
      rw [s2, d2]
      cases b with
      | true =>
        have s1 : sgnV true l = -1 := (if_neg hl).trans rfl
        have d1 : sD true l x = -(vD l x : Int) := rfl
        rw [s1, d1]
        unfold cmpI
        rw [if_pos (by omega), if_pos (by omega)]
      | false =>
        have s1 : sgnV false l = 1 := (if_neg hl).trans rfl
        have d1 : sD false l x = (vD l x : Int) := rfl
        rw [s1, d1]
        unfold cmpI
        rw [if_neg (by omega), if_pos (by omega), if_neg (by omega), if_pos (by omega)]
    · have g2 := vD_pos (RD.of g hm)
      have z1 := size_val (RD.of h hl) (RD.of g hm)
      have z2 := size_val (RD.of g hm) (RD.of h hl)
      have st : sgnV true l = -1 := (if_neg hl).trans rfl
      have sf : sgnV false l = 1 := (if_neg hl).trans rfl
      have tt : sgnV true m = -1 := (if_neg hm).trans rfl
      have tf : sgnV false m = 1 := (if_neg hm).trans rfl
      have d1 : sD true l x = -(vD l x : Int) := rfl
      have d2 : sD false l x = (vD l x : Int) := rfl
      have d3 : sD true m y = -(vD m y : Int) := rfl
      have d4 : sD false m y = (vD m y : Int) := rfl
      cases b with
      | true =>
        cases c with
        | true => rw [st, tt, if_neg (by omega), if_neg (by omega), if_pos (by omega), z2, d1, d3, cmpI_neg]
        | false => rw [st, tf, if_pos (by omega), d1, d4]; unfold cmpI; rw [if_pos (by omega)]
      | false =>
        cases c with
        | true => rw [sf, tt, if_neg (by omega), if_pos (by omega), d2, d3]; unfold cmpI; rw [if_neg (by omega), if_pos (by omega)]
        | false => rw [sf, tf, if_neg (by omega), if_neg (by omega), if_neg (by omega), z1, d2, d4, cmpI_nat]
theorem cmpV_not (b : Bool) (l : List UInt8) (x : Int) (c : Bool) (m : List UInt8) (y : Int) (h : ¬ (rightV l x = true ∧ rightV m y = true)) : cmpV b l x c m y = 0 := by
  unfold cmpV; rw [if_neg (by rw [Bool.and_eq_true]; exact h)]
/-- The other way round it is the other sign. -/
theorem cmpV_turn (b : Bool) (l : List UInt8) (x : Int) (c : Bool) (m : List UInt8) (y : Int) : cmpV b l x c m y = -cmpV c m y b l x := by
  by_cases h : rightV l x = true ∧ rightV m y = true
  · rw [cmp_val b l x c m y h.1 h.2, cmp_val c m y b l x h.2 h.1]; exact cmpI_range _ _
  · rw [cmpV_not b l x c m y h, cmpV_not c m y b l x (fun q => h ⟨q.2, q.1⟩)]; rfl
theorem cmpV_self (b : Bool) (l : List UInt8) (x : Int) : cmpV b l x b l x = 0 := by
  have := cmpV_turn b l x b l x; omega
theorem compareBytes_zero : ∀ a b : List UInt8, Lib.compareBytes a b = 0 → a = b
  | [], [], _ => rfl
  | [], b :: bs, h => by unfold Lib.compareBytes at h; omega
  | a :: av, [], h => by unfold Lib.compareBytes at h; omega
  | a :: av, b :: bs, h => by
    unfold Lib.compareBytes at h
    by_cases h1 : a < b
    · rw [if_pos h1] at h; omega
    · rw [if_neg h1] at h
      by_cases h2 : b < a
      · rw [if_pos h2] at h; omega
      · rw [if_neg h2] at h
        have e : a = b := by
          have n1 : ¬ a.toNat < b.toNat := fun q => h1 (UInt8.lt_iff_toNat_lt.2 q)
          have n2 : ¬ b.toNat < a.toNat := fun q => h2 (UInt8.lt_iff_toNat_lt.2 q)
          exact UInt8.toNat_inj.1 (by omega)
        rw [e, compareBytes_zero av bs h]
theorem vD_inj {l m : List UInt8} {x y : Int} (h : RD l x) (g : RD m y) (e : vD l x = vD m y) : l = m ∧ x = y := by
  have z := size_val h g
  rw [e] at z
  have z0 : cmpN (vD m y) (vD m y) = 0 := by unfold cmpN; rw [if_neg (Nat.lt_irrefl _), if_neg (Nat.lt_irrefl _)]
  rw [z0] at z
  have p1 : pointV l x = (l.length : Int) + x := by unfold pointV; rw [if_pos h.right]
  have p2 : pointV m y = (m.length : Int) + y := by unfold pointV; rw [if_pos g.right]
  unfold sizeV at z
  by_cases h1 : pointV l x < pointV m y
  · rw [if_pos h1] at z; omega
  · rw [if_neg h1] at z
    by_cases h2 : pointV m y < pointV l x
    · rw [if_pos h2] at z; omega
    · rw [if_neg h2] at z
      have hl := compareBytes_zero _ _ z
      subst hl
      exact ⟨rfl, by omega⟩
/-- Equal ones are the same, but for zeros. -/
theorem cmpV_same {b : Bool} {l : List UInt8} {x : Int} {c : Bool} {m : List UInt8} {y : Int} (h : rightV l x = true) (g : rightV m y = true) (e : cmpV b l x c m y = 0) : (l = [] ∧ m = []) ∨ (b = c ∧ l = m ∧ x = y) := by
  rw [cmp_val b l x c m y h g, cmpI_eq] at e
  by_cases hl : l = []
  · by_cases hm : m = []
    · exact Or.inl ⟨hl, hm⟩
    · have g2 := vD_pos (RD.of g hm)
      subst hl
      have d1 : sD b [] x = 0 := by unfold sD; rw [vD_nil]; cases b <;> rfl
      rw [d1] at e
      unfold sD at e
      cases c <;> simp at e <;> omega
  · have h2 := vD_pos (RD.of h hl)
    by_cases hm : m = []
    · subst hm
      have d1 : sD c [] y = 0 := by unfold sD; rw [vD_nil]; cases c <;> rfl
      rw [d1] at e
      unfold sD at e
      cases b <;> simp at e <;> omega
    · have g2 := vD_pos (RD.of g hm)
      refine Or.inr ?_
      have d1 : sD true l x = -(vD l x : Int) := rfl
      have d2 : sD false l x = (vD l x : Int) := rfl
      have d3 : sD true m y = -(vD m y : Int) := rfl
      have d4 : sD false m y = (vD m y : Int) := rfl
      cases b <;> cases c <;> simp only [d1, d2, d3, d4] at e
      · exact ⟨rfl, vD_inj (RD.of h hl) (RD.of g hm) (by omega)⟩
      · omega
      · omega
      · exact ⟨rfl, vD_inj (RD.of h hl) (RD.of g hm) (by omega)⟩
/-- It goes on. -/
theorem cmpV_trans {b : Bool} {l : List UInt8} {x : Int} {c : Bool} {m : List UInt8} {y : Int} {d : Bool} {k : List UInt8} {z : Int} (h : rightV l x = true) (g : rightV m y = true) (f : rightV k z = true) (h1 : cmpV b l x c m y ≤ 0) (h2 : cmpV c m y d k z ≤ 0) : cmpV b l x d k z ≤ 0 := by
  rw [cmp_val b l x c m y h g, cmpI_le] at h1
  rw [cmp_val c m y d k z g f, cmpI_le] at h2
  rw [cmp_val b l x d k z h f, cmpI_le]
  omega
end Go.Proofs.YtgjhpcmpgkfnkaaDoor
