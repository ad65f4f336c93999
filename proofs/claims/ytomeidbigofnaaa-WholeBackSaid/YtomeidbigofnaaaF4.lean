/-
  The walks of package float, on: nearest, Join.
-/
import Derived.Test.YtomeidbigofnaaaF3
namespace Go.Proofs.Ytomeidbigofnaaa
open Go.RowKit Go.Shelf

def signI (neg : Bool) : Int := if neg then 9223372036854775808 else 0
/-- The place of the lowest bit that is kept. -/
def lastI (E size : Int) : Int := max (E + size - 52 - 1) (-1074)
def nearI (neg : Bool) (m over e size : Int) (more : Bool) : Int :=
  if m = 0 ∨ e < -2148 - over - size then signI neg
  else if 1024 < e ∨ 1024 < over + e + size then signI neg + 9218868437227405312
  else signI neg + (packI m (lastI (e + over) size - (e + over)) more + (lastI (e + over) size + 1074) * 4503599627370496)

theorem pow_lt {a b : Int} (h0 : 0 ≤ a) (h : a ≤ b) : pw a ≤ pw b := by
  have := pw_add a (b - a) h0 (by omega)
  rw [show a + (b - a) = b by omega] at this
  have k := Int.mul_le_mul_of_nonneg_left (show 1 ≤ pw (b - a) by have := pw_pos (b - a); omega) (Int.le_of_lt (pw_pos a))
  rw [Int.mul_one] at k; omega
theorem pack_bd (m cut size : Int) (more : Bool) (h0 : 0 ≤ m) (h1 : m < pw size) (hs : 0 ≤ size) (hc : size - 53 ≤ cut) : 0 ≤ packI m cut more ∧ packI m cut more ≤ 9007199254740992 := by
  have e53 : pw 53 = 9007199254740992 := rfl
  unfold packI
  by_cases c : cut ≤ 0
  · rw [if_pos c, Nat.min_eq_left (by omega), pw_eq]
    have k1 : m * pw (-cut) < pw 53 := by
      have a := Int.mul_lt_mul_of_pos_right h1 (pw_pos (-cut))
      rw [← pw_add _ _ hs (by omega)] at a
      have b := pow_lt (show 0 ≤ size + -cut by omega) (show size + -cut ≤ 53 by omega)
      omega
    have k0 : 0 ≤ m * pw (-cut) := Int.mul_nonneg h0 (Int.le_of_lt (pw_pos _))
    rw [IntKind.wrap_u64, Int.emod_eq_of_lt k0 (by omega)]
    omega
  · rw [if_neg c]
    have k0 : 0 ≤ m / pw cut := Int.ediv_nonneg h0 (Int.le_of_lt (pw_pos _))
    have k1 : m / pw cut < 9007199254740992 := by
      refine Int.ediv_lt_of_lt_mul (pw_pos _) ?_
      have b := pow_lt hs (show size ≤ 53 + cut by omega)
      rw [pw_add 53 cut (by decide) (by omega), e53] at b
      omega
    unfold roundI
    split <;> omega

theorem or_sign (neg : Bool) (v : Int) (h0 : 0 ≤ v) (h1 : v < 9223372036854775808) : bits .or .u64 (signI neg) v = signI neg + v := by
  obtain ⟨n, rfl⟩ := Int.eq_ofNat_of_zero_le h0
  cases neg
  · have := u64_or_nat 0 n (by decide) (by omega)
    simp only [Nat.zero_or] at this
    show bits .or .u64 0 (n : Int) = 0 + (n : Int)
    rw [Int.zero_add]; exact this
  · show bits .or .u64 9223372036854775808 (n : Int) = 9223372036854775808 + (n : Int)
    rw [show (9223372036854775808 : Int) = ((2 ^ 63 : Nat) : Int) from rfl, u64_or_nat (2 ^ 63) n (by decide) (by omega), Plain.nat_join 63 (2 ^ 63) n (by decide) (by have : (2 : Nat) ^ 63 = 9223372036854775808 := rfl; omega)]
    rfl

set_option maxHeartbeats 1000000 in
theorem nearest_any (neg : Bool) (m over e size : Int) (more : Bool) (h : Word m) (ho0 : 0 ≤ over) (ho1 : over ≤ 1000000) (he0 : -9223372036854775808 ≤ e) (he1 : e ≤ 9223372036854775807) (hs : (Lib.bitLen m.toNat : Int) = size) (w : World) :
    Calls Try.prog 56 #[.bool neg, .int .u64 m, .int .i64 over, .int .i64 e, .bool more] w (WordPost (nearI neg m over e size more) w) := by
  have hl : Hid (∀ w, Calls Try.prog 66 #[.int .u64 m] w fun e w' => e = .returned (.int .i64 size) ∧ w = w') := fun w => by
    rw [← hs]; exact (Try.bits_Len64 m w h.1 (by have := h.2; omega)).mono fun _ _ h => ⟨h.1, h.2.symm⟩
  obtain ⟨s1, s2, s3⟩ := bitLen_bd m.toNat (by have := h.1; have := h.2; omega)
  have z0 : 0 ≤ size := by omega
  have z1 : size ≤ 64 := by omega
  have hm1 : Hid (m < pw size) := by
    unfold Hid; rw [← hs]; have := h.1; show m < ((2 ^ Lib.bitLen m.toNat : Nat) : Int); omega
  have H := Lib.hid h
  clear s1 s2 s3 hs h
  by_cases c1 : m = 0 ∨ e < -2148 - over - size
  · have E : Hid (signI neg = nearI neg m over e size more) := by unfold Hid nearI; rw [if_pos c1]
    rcases c1 with c1 | c1
    · have c1' : (m == 0) = true := by simpa using c1
      clear c1
      cases neg
      all_goals
        go_enter Try.func56, Try.ntmps56
        go_wp2_with (go_at_call 66; refine (hl.out _).mono ?_; rintro e w' ⟨rfl, rfl⟩)
        go_ret
        exact ⟨ret_u64 E.out, Below.refl _ _⟩
    · rcases Bool.eq_false_or_eq_true (m == 0) with c2 | c2 <;> cases neg
      all_goals
        go_enter Try.func56, Try.ntmps56
        go_wp2_with (go_at_call 66; refine (hl.out _).mono ?_; rintro e w' ⟨rfl, rfl⟩)
        go_ret
        exact ⟨ret_u64 E.out, Below.refl _ _⟩
  · have c2 : (m == 0) = false := by simp; omega
    have c3 : -2148 - over - size ≤ e := by omega
    by_cases c4 : 1024 < e ∨ 1024 < over + e + size
    · have E : Hid (signI neg + 9218868437227405312 = nearI neg m over e size more) := by unfold Hid nearI; rw [if_neg c1, if_pos c4]
      have ho := or_sign neg 9218868437227405312 (by decide) (by decide)
      clear c1
      rcases c4 with c4 | c4
      · cases neg
        all_goals
          simp only [signI] at ho
          go_enter Try.func56, Try.ntmps56
          go_wp2_with (go_at_call 66; refine (hl.out _).mono ?_; rintro e w' ⟨rfl, rfl⟩)
          go_ret
          exact ⟨ret_u64 E.out, Below.refl _ _⟩
      · by_cases c5 : 1024 < e <;> cases neg
        all_goals
          simp only [signI] at ho
          go_enter Try.func56, Try.ntmps56
          go_wp2_with (go_at_call 66; refine (hl.out _).mono ?_; rintro e w' ⟨rfl, rfl⟩)
          go_ret
          exact ⟨ret_u64 E.out, Below.refl _ _⟩
    · have c5 : e ≤ 1024 := by omega
      have c6 : over + e + size ≤ 1024 := by omega
      obtain ⟨L, hL⟩ : ∃ L, max (e + over + size - 52 - 1) (-1074) = L := ⟨_, rfl⟩
      have l0 : -1074 ≤ L := by omega
      have l1 : L ≤ 971 := by omega
      have l2 : Hid (size - 53 ≤ L - (e + over)) := by unfold Hid; omega
      obtain ⟨P, hP⟩ : ∃ P, packI m (L - (e + over)) more = P := ⟨_, rfl⟩
      have hpb := pack_bd m (L - (e + over)) size more H.out.1 hm1.out z0 l2.out
      have hpk : Hid (∀ w, Calls Try.prog 68 #[.int .u64 m, .int .i64 (L - (e + over)), .bool more] w (WordPost P w)) := fun w => by
        rw [← hP]; exact packed_any m _ more H.out (by omega) (by omega) w
      rw [hP] at hpb
      obtain ⟨p0, p1⟩ := hpb
      have E : Hid (signI neg + (P + (L + 1074) * 4503599627370496) = nearI neg m over e size more) := by
        unfold Hid nearI lastI; rw [if_neg c1, if_neg c4, hL, hP]
      have HO := Lib.hid (or_sign neg (P + (L + 1074) * 4503599627370496) (by omega) (by omega))
      clear hP c1 c4 l2
      cases neg
      all_goals
        go_enter Try.func56, Try.ntmps56
        go_wp2_with (first | (go_at_call 66; refine (hl.out _).mono ?_; rintro e w' ⟨rfl, rfl⟩) | (go_at_call 68; refine (hpk.out _).mono ?_; rintro e w' ⟨rfl, hb⟩))
        go_ret
        exact ⟨ret_u64 (HO.out.trans E.out), hb⟩

/-! ### Join -/
/-- What Join answers: v is the number of 128 bits. -/
def joinI (neg : Bool) (over top size : Int) (lost : Bool) (e : Int) (more : Bool) : Int := nearI neg top over e size (more || lost)
/-- The top 64 bits of a number of n bits, and whether anything was left. -/
def JoinPost (neg : Bool) (v e : Int) (more : Bool) (w : World) (en : Ending) (w' : World) : Prop :=
  ∃ (n : Nat) (over top size : Int) (lost : Bool), n ≤ 128 ∧ v < (2 ^ n : Nat) ∧ (v ≠ 0 → ((2 ^ n : Nat) : Int) ≤ 2 * v) ∧ over = max ((n : Int) - 64) 0 ∧ top = v / pw over ∧ (lost = false ↔ v % pw over = 0) ∧ size = (Lib.bitLen top.toNat : Int) ∧
    en = .returned (.int .u64 (nearI neg top over e size (more || lost))) ∧ Below w.heap.size w w'

set_option maxHeartbeats 2000000 in
theorem join_any (neg : Bool) (h l e : Int) (more : Bool) (h1 : Word h) (h2 : Word l) (he0 : -9223372036854775808 ≤ e) (he1 : e ≤ 9223372036854775807) (w : World) :
    Calls Try.prog 35 #[.bool neg, .agg #[.int .u64 h, .int .u64 l], .int .i64 e, .bool more] w (JoinPost neg (val h l) e more w) := by
  have hv := val_bd h1 h2
  have H1 := Lib.hid h1; have H2 := Lib.hid h2; clear h1 h2
  go_enter Try.func35, Try.ntmps35
  go_wp2_with fail
  refine (len_any h l H1.out H2.out _).mono ?_
  rintro en w1 ⟨n, rfl, hn, hlt, hge, hb1⟩
  obtain ⟨over, hov⟩ : ∃ z, max ((n : Int) - 64) 0 = z := ⟨_, rfl⟩
  have o0 : 0 ≤ over := by omega
  have o1 : over ≤ 64 := by omega
  have z1 := hb1.size; simp at z1
  have c10 : w1.cell? ⟨w.heap.size, 0, none⟩ = some (.int .u64 h) := by rw [(bcell hb1).1 _ _ (by simp)]; simp [go_sem]
  have c11 : w1.cell? ⟨w.heap.size, 1, none⟩ = some (.int .u64 l) := by rw [(bcell hb1).1 _ _ (by simp)]; simp [go_sem]
  have HB1 : Hid (Below w.heap.size w w1) := ((Below.refl _ _).alloc (Nat.le_refl _) _).trans (hb1.mono (by simp))
  have HV := Lib.hid hv; have HL := Lib.hid hlt; have HG := Lib.hid hge
  clear hb1 hv hlt hge
  go_wp2_with fail
  refine (shr_any h l over H1.out H2.out (by omega) _).mono ?_
  rintro en w2 ⟨x, y, lost, rfl, hx, hy, hxy, hlost, hb2⟩
  have z2 := hb2.size
  have HB2 : Hid (Below w.heap.size w w2) := HB1.out.trans (hb2.mono (by omega))
  have HO := Lib.hid hov
  have htop : x = 0 ∧ y = val h l / pw over := by
    have hlt := HL.out
    have hp := pw_pos over
    have e1 : val h l / pw over < 18446744073709551616 := by
      refine Int.ediv_lt_of_lt_mul hp ?_
      have e2 : ((2 ^ n : Nat) : Int) = pw (n : Int) := rfl
      rw [e2] at hlt
      have := pow_lt (show 0 ≤ (n : Int) by omega) (show (n : Int) ≤ 64 + over by omega)
      rw [pw_add 64 over (by decide) o0, pw_64] at this
      omega
    rw [← hxy] at e1 ⊢
    unfold Word val at *; omega
  obtain ⟨rfl, htop⟩ := htop
  have HN := Lib.hid (fun (m : Bool) (w : World) => nearest_any neg y over e _ m hy o0 (by omega) he0 he1 rfl w)
  have HF : Hid (∀ w3, Below w.heap.size w w3 → JoinPost neg (val h l) e more w (.returned (.int .u64 (nearI neg y over e (Lib.bitLen y.toNat) (more || lost)))) w3) := fun w3 hb =>
    ⟨n, over, y, _, lost, hn, HL.out, HG.out, HO.out.symm, htop, hlost, rfl, rfl, hb⟩
  clear hxy hx hy hb2 htop hlost hov
  cases more <;> cases lost
  all_goals
    go_wp2_with (go_at_call 56; refine (HN.out _ _).mono ?_; rintro en w3 ⟨rfl, hb3⟩)
    go_ret
    exact HF.out _ ((HB2.out.alloc (by omega) _).trans (hb3.mono (by simp; omega)))
end Go.Proofs.Ytomeidbigofnaaa
