/-
  The sum of two finite numbers that are no zeros: walked.
-/
import Derived.Test.YthclnopdmmibiaaDoorA1
namespace Go.Proofs.YthclnopdmmibiaaDoor
open Go.RowKit Go.Shelf

theorem right_fin {x : Int} (h : Word x) (hf : expI x ≠ 2047) : rightI x = x := by
  have := kind_of_fin h hf
  unfold rightI; rw [if_neg (by omega)]
theorem abs_fin (x r : Int) (h : Word x) (hf : expI x ≠ 2047) (hr : absI x = r) (w : World) : Calls Tryd.prog 31 #[.int .u64 x] w fun e w' => e = .returned (.int .u64 r) ∧ w = w' := by
  have := abs_any x h w
  rw [right_fin h hf, hr] at this; exact this
theorem split_vars (x m p : Int) (s : Bool) (h : Word x) (hs : negB x = s) (hm : mantI x = m) (hp : powI x = p) (w : World) : Calls Tryd.prog 25 #[.int .u64 x] w fun e w' => e = .returned (.tuple #[.bool s, .int .u64 m, .int .i64 p]) ∧ w = w' := by
  subst hs hm hp; exact split_any x h w
theorem ShrPost.at {v p r s : Int} {o : Bool} (h1 : Word r) (h2 : Word s) (hv : val r s = v / p) (ho : o = (v % p != 0)) : ∀ (w : World) (e : Ending) (w' : World), ShrPost v p w e w' → e = .returned (.tuple #[.agg #[.int .u64 r, .int .u64 s], .bool o]) ∧ Below w.heap.size w w' := by
  rintro w e w' ⟨a, b, o', rfl, h3, h4, h, h5, hb⟩
  obtain ⟨rfl, rfl⟩ := val_inj h1 h2 h3 h4 (hv.trans h.symm)
  refine ⟨?_, hb⟩
  have : o' = o := by
    rw [ho]
    by_cases c : v % p = 0
    · rw [h5.2 c]; simp [c]
    · cases o'
      · exact absurd (h5.1 rfl) c
      · simp [c]
  rw [this]
theorem AddPost.at {s r t : Int} (h1 : Word r) (h2 : Word t) (hv : val r t = s) : ∀ (w : World) (e : Ending) (w' : World), AddPost s w e w' → e = .returned (.tuple #[.agg #[.int .u64 r, .int .u64 t], .bool false]) ∧ Below w.heap.size w w' := by
  rintro w e w' ⟨a, b, o, rfl, h3, h4, h | h, hb⟩
  · have := val_bd h1 h2; have := val_bd h3 h4; omega
  · obtain ⟨rfl, rfl⟩ := val_inj h1 h2 h3 h4 (hv.trans h.2.symm)
    rw [h.1]; exact ⟨rfl, hb⟩
theorem SubPost.at {s r t : Int} (h1 : Word r) (h2 : Word t) (hv : val r t = s) : ∀ (w : World) (e : Ending) (w' : World), SubPost s w e w' → e = .returned (.tuple #[.agg #[.int .u64 r, .int .u64 t], .bool false]) ∧ Below w.heap.size w w' := by
  rintro w e w' ⟨a, b, o, rfl, h3, h4, h | h, hb⟩
  · have := val_bd h1 h2; have := val_bd h3 h4; omega
  · obtain ⟨rfl, rfl⟩ := val_inj h1 h2 h3 h4 (hv.trans h.2.symm)
    rw [h.1]; exact ⟨rfl, hb⟩

/-- All that the sum of p and q (p is not the lesser one, by its amount) comes to, in words. -/
structure SumAt (p q : Int) (s : Int) (np nq : Bool) (mp mq ep eq up d : Int) (gh gl sh sl : Int) (lost : Bool) : Prop where
  mp0 : 0 ≤ mp
  mp1 : mp < 18446744073709551616
  mq0 : 0 ≤ mq
  mq1 : mq < 18446744073709551616
  ep0 : -1074 ≤ ep
  ep1 : ep ≤ 971
  eq0 : -1074 ≤ eq
  eq1 : eq ≤ ep
  up_eq : up = min (ep - eq) 70
  d_eq : d = ep - up - eq
  g1 : Word gh
  g2 : Word gl
  gv : val gh gl = mp * pw up
  s1 : Word sh
  s2 : Word sl
  sv : val sh sl = mq / pw d
  lo : lost = (mq % pw d != 0)
  same : np = nq → ∃ rh rl, Word rh ∧ Word rl ∧ val rh rl = val gh gl + val sh sl ∧ ∃ n, Bits (val rh rl) n ∧ joinV np (val rh rl) (ep - up) n lost = R s
  zero : np ≠ nq → val gh gl - val sh sl = 0 → R s = 0
  diff : np ≠ nq → val gh gl - val sh sl ≠ 0 → ∃ rh rl th tl, Word rh ∧ Word rl ∧ val rh rl = val gh gl - val sh sl ∧ Word th ∧ Word tl ∧ val th tl = val rh rl - (if lost then 1 else 0) ∧ ∃ n, Bits (val th tl) n ∧ joinV np (val th tl) (ep - up) n lost = R s

theorem sum_at {p q : Int} (h1 : Word p) (h2 : Word q) (f1 : expI p ≠ 2047) (f2 : expI q ≠ 2047) (z1 : absI p ≠ 0) (_z2 : absI q ≠ 0) (hle : absI q ≤ absI p) :
    ∃ up d gh gl sh sl lost, SumAt p q (sX p + sX q) (negB p) (negB q) (mantI p) (mantI q) (powI p) (powI q) up d gh gl sh sl lost := by
  obtain ⟨a1, a2, a3, a4⟩ := mant_bd p h1
  obtain ⟨b1, b2, b3, b4⟩ := mant_bd q h2
  have hpow := abs_mant h1 h2 f1 f2 hle
  have hm : 1 ≤ mantI p := by have := mant_zero p h1 f1; omega
  have hxle := XI_le h2 h1 f2 f1 hle
  have hx0 := XI_nonneg p h1
  have hxz := XI_zero p h1 f1
  have hq0 := XI_nonneg q h2
  obtain ⟨up, hup⟩ : ∃ z, min (powI p - powI q) 70 = z := ⟨_, rfl⟩
  obtain ⟨d, hd⟩ : ∃ z, powI p - up - powI q = z := ⟨_, rfl⟩
  have hg0 : 0 ≤ mantI p * pw up := Int.mul_nonneg a1 (Int.le_of_lt (pw_pos _))
  have hg1 : mantI p * pw up < 340282366920938463463374607431768211456 / 16 := by
    have e53 : pw 53 = 9007199254740992 := rfl
    have e70 : pw 70 = 1180591620717411303424 := rfl
    have := pow_lt (show 0 ≤ up by omega) (show up ≤ 70 by omega)
    have := Int.mul_le_mul (show mantI p ≤ 9007199254740992 by omega) this (Int.le_of_lt (pw_pos _)) (by decide)
    rw [e70] at this
    omega
  have hs0 : 0 ≤ mantI q / pw d := Int.ediv_nonneg b1 (Int.le_of_lt (pw_pos _))
  have hs1 : mantI q / pw d < 9007199254740992 := by have := Int.ediv_le_self (pw d) b1; omega
  obtain ⟨gh, gl, g1, g2, gv⟩ := words (mantI p * pw up) hg0 (by omega)
  obtain ⟨sh, sl, s1, s2, sv⟩ := words (mantI q / pw d) hs0 (by omega)
  have S := sum_val (negB p) (mp := mantI p) (mq := mantI q) (ep := powI p) (eq := powI q) (up := up) (d := d) hm b1 b3 rfl (by omega) hup.symm (by omega)
  obtain ⟨D0, D1, D2⟩ := diff_val (negB p) (mp := mantI p) (mq := mantI q) (ep := powI p) (eq := powI q) (up := up) (d := d) hm b1 b2 b3 rfl (by omega) hup.symm (by omega) hxle
  refine ⟨up, d, gh, gl, sh, sl, _, a1, by omega, b1, by omega, a3, a4, b3, hpow, hup.symm, hd.symm, g1, g2, gv, s1, s2, sv, rfl, ?_, ?_, ?_⟩
  · intro hn
    obtain ⟨rh, rl, r1, r2, rv⟩ := words (mantI p * pw up + mantI q / pw d) (by omega) (by omega)
    refine ⟨rh, rl, r1, r2, by rw [rv, gv, sv], blen (val rh rl), blen_bits (val_bd r1 r2).1, ?_⟩
    rw [rv, S]
    show rndI (negB p) (XI p + XI q) (-1074) = _
    unfold R sX
    rw [← hn]
    cases negB p
    · simp only [Bool.false_eq_true, if_false]
      rw [if_neg (by omega), if_neg (by omega), decide_eq_false (by omega)]
    · simp only [if_true]
      rw [if_neg (by omega), if_pos (by omega), decide_eq_true (by omega)]
      congr 1; omega
  · intro hn h0
    rw [gv, sv] at h0
    have h0 : XI p = XI q := D2.1 h0
    have : sX p + sX q = 0 := by
      unfold sX
      revert hn
      cases negB p <;> cases negB q <;> simp [h0] <;> omega
    rw [this]; rfl
  · intro hn h0
    rw [gv, sv] at h0
    have h0 : XI p ≠ XI q := fun e => h0 (D2.2 e)
    obtain ⟨rh, rl, r1, r2, rv⟩ := words (mantI p * pw up - mantI q / pw d) (by split at D0 <;> omega) (by omega)
    obtain ⟨th, tl, t1, t2, tv⟩ := words (mantI p * pw up - mantI q / pw d - (if mantI q % pw d = 0 then 0 else 1)) D0 (by split <;> omega)
    refine ⟨rh, rl, th, tl, r1, r2, by rw [rv, gv, sv], t1, t2, ?_, blen (val th tl), blen_bits (val_bd t1 t2).1, ?_⟩
    · rw [tv, rv]; by_cases c : mantI q % pw d = 0 <;> simp [c]
    · rw [tv, D1]
      show rndI (negB p) (XI p - XI q) (-1074) = _
      unfold R sX
      revert hn
      cases negB p <;> cases negB q <;> intro hn
      · exact absurd rfl hn
      · simp only [Bool.false_eq_true, if_false, if_true]
        rw [if_neg (by omega), if_neg (by omega), decide_eq_false (by omega)]
        congr 1
      · simp only [Bool.false_eq_true, if_false, if_true]
        rw [if_neg (by omega), if_pos (by omega), decide_eq_true (by omega)]
        congr 1; omega
      · exact absurd rfl hn
end Go.Proofs.YthclnopdmmibiaaDoor
