/-
  whole.Is; the document's Parts and Is: walked.
-/
import Derived.Test.YtomeidbigofnaaaG4
namespace Go.Proofs.Ytomeidbigofnaaa
open Go.RowKit Go.Shelf

theorem field_neg (s : Bool) (q r o : Int) (w : World) : (Instr.field 43 (.agg #[.bool s, .int .u64 q, .int .u64 r, .int .u64 o]) 0).run Try.prog w = .ok (.bool s) w := by first | rfl | kernel_rfl
theorem field_whole (s : Bool) (q r o : Int) (w : World) : (Instr.field 43 (.agg #[.bool s, .int .u64 q, .int .u64 r, .int .u64 o]) 1).run Try.prog w = .ok (.int .u64 q) w := by first | rfl | kernel_rfl
theorem field_rest (s : Bool) (q r o : Int) (w : World) : (Instr.field 43 (.agg #[.bool s, .int .u64 q, .int .u64 r, .int .u64 o]) 2).run Try.prog w = .ok (.int .u64 r) w := by first | rfl | kernel_rfl
theorem field_one (s : Bool) (q r o : Int) (w : World) : (Instr.field 43 (.agg #[.bool s, .int .u64 q, .int .u64 r, .int .u64 o]) 3).run Try.prog w = .ok (.int .u64 o) w := by first | rfl | kernel_rfl
theorem lit1 (W : World) : Sl (W.alloc (.cells #[.int .u32 1] 62)) (W.alloc (.cells #[.int .u32 1] 62)).heap.size (some ⟨W.heap.size, 0, none⟩) 1 1 [1] := by
  obtain ⟨A, c, e, h, _⟩ := Sl.of_own (lit_own W [1] 1 rfl (by decide)) (fun x hx => by simp at hx; subst hx; exact ⟨by decide, by decide⟩)
  cases e
  exact h

def isB (x : Int) : Bool := decide (kindI x < 3) && (leftI x == 0)
def BoolPost (b : Bool) (w : World) (e : Ending) (w' : World) : Prop := e = .returned (.bool b) ∧ Below w.heap.size w w'
set_option maxRecDepth 100000 in
set_option maxHeartbeats 1000000 in
theorem wis_any (x : Int) (h : Word x) (w : World) : Calls Try.prog 13 #[.int .u64 x] w (BoolPost (isB x) w) := by
  obtain ⟨k, hk⟩ : ∃ z, kindI x = z := ⟨_, rfl⟩
  have K := Lib.hid (fun W => kind_vars x k h hk W)
  have C := Lib.hid (fun W => cut_any x h W)
  obtain ⟨l, hl⟩ : ∃ z, leftI x = z := ⟨_, rfl⟩
  have HL := Lib.hid hl
  have IB : Hid (isB x = (decide (k < 3) && (l == 0))) := by unfold Hid isB; rw [hk, hl]
  generalize isB x = b at *
  clear hk hl h
  have hf2 := field_rest
  by_cases c : k < 3
  · go_enter Try.func13, Try.ntmps13
    go_wp2_with (go_at_call 25; refine (K.out _).mono ?_; rintro e w' ⟨rfl, rfl⟩)
    refine (C.out _).mono ?_
    rintro e w1 ⟨q, r, o, rfl, hc, hb⟩
    have hz := hc.z
    rw [HL.out] at hz
    clear hc
    by_cases r0 : r = 0
    · have t1 : (r == 0) = true := by simpa using r0
      have fin : Hid (b = true) := by unfold Hid; rw [IB.out]; simp [c, hz.1 r0]
      clear hz r0 IB
      go_wp2
      go_ret
      exact ⟨by rw [fin.out]; rfl, by first | exact hb | exact hb.alloc hb.size _⟩
    · have t1 : (r == 0) = false := by simpa using r0
      have fin : Hid (b = false) := by unfold Hid; rw [IB.out]; simp [c, mt hz.2 r0]
      clear hz r0 IB
      go_wp2
      go_ret
      exact ⟨by rw [fin.out]; rfl, by first | exact hb | exact hb.alloc hb.size _⟩
  · have fin : Hid (b = false) := by unfold Hid; rw [IB.out]; simp [c]
    clear IB hf2
    go_enter Try.func13, Try.ntmps13
    go_wp2_with (go_at_call 25; refine (K.out _).mono ?_; rintro e w' ⟨rfl, rfl⟩)
    go_ret
    exact ⟨by rw [fin.out]; rfl, Below.refl _ _⟩

/-- Twice what is left against one. -/
def halfI (x : Int) : Int := if 0 ≤ powI x then -1 else cmpI (2 * leftI x) (pw (-powI x))
def Parts6Post (x : Int) (w : World) (e : Ending) (w' : World) : Prop :=
  ∃ A n c l, e = .returned (.tuple #[.slice A n c, .int .i64 (halfI x), .bool (leftI x == 0)]) ∧ Sl w' w'.heap.size A n c l ∧ Norm l ∧ natV l = wholI x ∧ Below w.heap.size w w'
theorem parts6_mk {x hv v : Int} {b : Bool} {A : Option Addr} {n c : Nat} {l : List Int} {w w' : World} (e1 : halfI x = hv) (e2 : (leftI x == 0) = b) (e3 : wholI x = v) (hs : Sl w' w'.heap.size A n c l) (hn : Norm l) (hl : natV l = v) (hb : Below w.heap.size w w') :
    Parts6Post x w (.returned (.tuple #[.slice A n c, .int .i64 hv, .bool b])) w' := ⟨A, n, c, l, by rw [e1, e2], hs, hn, by rw [hl, e3], hb⟩
theorem pw_small {k : Int} (h0 : 0 ≤ k) (h : k ≤ 1074) : pw k < pw (32 * ((40 : Nat) : Int)) := by
  have a := pw_mono (a := k) (b := 1074) h0 h
  have b := pw_succ 1074 (by decide)
  have c := pw_mono (a := 1074 + 1) (b := 32 * ((40 : Nat) : Int)) (by decide) (by decide)
  have d := pw_pos 1074
  omega

set_option maxRecDepth 100000 in
set_option maxHeartbeats 4000000 in
theorem parts6_any (x : Int) (h : Word x) (w : World) : Calls Try.prog 31 #[.int .u64 x] w (Parts6Post x w) := by
  have SP := Lib.hid (fun W => rsplit_any x h W)
  obtain ⟨m0, m1, p0, p1⟩ := mant_bd x h
  obtain ⟨hv, hhv⟩ : ∃ z, halfI x = z := ⟨_, rfl⟩
  obtain ⟨ex, hex⟩ : ∃ z, (leftI x == 0) = z := ⟨_, rfl⟩
  obtain ⟨v, hv'⟩ : ∃ z, wholI x = z := ⟨_, rfl⟩
  have MK := Lib.hid (fun (A : Option Addr) (n c : Nat) (l : List Int) (w' : World) (hs : Sl w' w'.heap.size A n c l) (hn : Norm l) (hl : natV l = v) (hb : Below w.heap.size w w') => parts6_mk hhv hex hv' hs hn hl hb)
  by_cases c1 : 0 ≤ powI x
  · have f1 : Hid (hv = -1) := by unfold Hid; rw [← hhv]; unfold halfI; rw [if_pos c1]
    have f2 : Hid (ex = true) := by unfold Hid; rw [← hex]; unfold leftI; rw [if_pos c1]; rfl
    have f3 : Hid (v = mantI x * pw (powI x)) := by unfold Hid; rw [← hv']; unfold wholI; rw [if_pos c1]
    clear hhv hex hv' h
    generalize negB x = s at *
    generalize mantI x = m at *
    generalize powI x = p at *
    rw [f1.out, f2.out] at MK
    have NA := Lib.hid (fun W => nat3_any m ⟨m0, by omega⟩ W)
    go_enter Try.func31, Try.ntmps31
    go_wp2_with (go_at_call 43; refine (SP.out _).mono ?_; rintro e w' ⟨rfl, rfl⟩)
    refine (NA.out _).mono ?_
    rintro e w1 ⟨A1, n1, c1', l1, rfl, hs1, hn1, hv1, _, hb1⟩
    have n1b : n1 ≤ 8 := hs1.small hn1 (by rw [hv1]; omega)
    have hv1 := Lib.hid hv1
    clear hn1
    go_wp2_with fail
    refine (rup_any A1 n1 c1' l1 p _ hs1 (by omega) c1 (by omega)).mono ?_
    rintro e w2 ⟨A2, n2, c2, l2, rfl, hs2, hn2, hv2, _, hb2⟩
    have hv2 : Hid (natV l2 = v) := by unfold Hid; rw [hv2, hv1.out, f3.out]
    have hB2 := hb1.trans (hb2.mono hb1.size)
    have FIN := Lib.hid (MK.out A2 n2 c2 l2 w2 hs2 hn2 hv2.out hB2)
    clear hs1 hs2 hn2 hb1 hb2 hB2 MK
    go_wp2
    go_ret3
    exact FIN.out
  · have f1 : Hid (hv = cmpI (2 * leftI x) (pw (-powI x))) := by unfold Hid; rw [← hhv]; unfold halfI; rw [if_neg c1]
    have f2 : Hid (ex = (mantI x % pw (-powI x) == 0)) := by unfold Hid; rw [← hex]; unfold leftI; rw [if_neg c1]
    have f3 : Hid (v = mantI x / pw (-powI x)) := by unfold Hid; rw [← hv']; unfold wholI; rw [if_neg c1]
    have f4 : Hid (leftI x = mantI x % pw (-powI x)) := by unfold Hid leftI; rw [if_neg c1]
    rw [f4.out] at f1
    clear hhv hex hv' h f4
    generalize negB x = s at *
    generalize mantI x = m at *
    generalize powI x = p at *
    obtain ⟨u, hu⟩ : ∃ z, pw (-p) = z := ⟨_, rfl⟩
    have u0 := pw_pos (-p)
    have u1 := pw_small (k := -p) (by omega) (by omega)
    have HU := Lib.hid hu
    rw [hu] at f1 f2 f3 u0 u1
    have U1 := Lib.hid u1
    have r0 := Int.emod_nonneg m (Int.ne_of_gt u0)
    have r1 : m % u ≤ m := by
      have := Int.emod_add_mul_ediv m u
      have := Int.mul_nonneg (Int.le_of_lt u0) (Int.ediv_nonneg m0 (Int.le_of_lt u0))
      omega
    have q0 := Int.ediv_nonneg m0 (Int.le_of_lt u0)
    have q1 := Int.ediv_le_self u m0
    have NA := Lib.hid (fun W => nat3_any m ⟨m0, by omega⟩ W)
    have LIT := Lib.hid (fun W : World => lit1 W)
    clear hu u1
    go_enter Try.func31, Try.ntmps31
    go_wp2_with (go_at_call 43; refine (SP.out _).mono ?_; rintro e w' ⟨rfl, rfl⟩)
    refine (NA.out _).mono ?_
    rintro e w1 ⟨A1, n1, c1', l1, rfl, hs1, hn1, hv1, _, hb1⟩
    have n1b : n1 ≤ 8 := hs1.small hn1 (by rw [hv1]; omega)
    have hv1 := Lib.hid hv1
    clear hn1
    go_wp2_with fail
    have hs1' := Lib.hid hs1
    refine (rup_any _ 1 1 [1] (-p) _ (LIT.out _) (by decide) (by omega) (by omega)).mono ?_
    rintro e w2 ⟨A2, n2, c2, l2, rfl, hs2, hn2, hv2, _, hb2⟩
    have hv2 : Hid (natV l2 = u) := by unfold Hid; rw [hv2, HU.out]; show (1 + 4294967296 * 0) * u = u; omega
    have n2b : n2 ≤ 40 := by rw [← hs2.len]; exact norm_len hs2.lim hn2 (by rw [hv2.out]; exact U1.out)
    have st2 : Below w1.heap.size w1 w2 := (below_new _ _).trans (hb2.mono (by simp))
    have hs1 := hs1'.out.on st2
    have hB2 := hb1.trans (st2.mono hb1.size)
    clear hn2 hb1 hb2 st2 hs1' LIT
    go_wp2_with fail
    refine (rparts_any A1 A2 n1 n2 c1' c2 l1 l2 _ hs1 hs2 (by omega) (by omega) (by rw [hv2.out]; exact u0)).mono ?_
    rintro e w3 ⟨A3, n3, c3, l3, A4, n4, c4, l4, rfl, hs3, hn3, hv3, hs4, hn4, hv4, hb3⟩
    have hv3 : Hid (natV l3 = v) := by unfold Hid; rw [hv3, hv1.out, hv2.out, f3.out]
    have hv4 : Hid (natV l4 = m % u) := by unfold Hid; rw [hv4, hv1.out, hv2.out]
    have n4b : n4 ≤ 8 := hs4.small hn4 (by rw [hv4.out]; omega)
    have hs2 := hs2.on hb3
    have hB3 := hB2.trans (hb3.mono hB2.size)
    have Z4 : Hid (n4 = 0 ↔ m % u = 0) := by
      unfold Hid
      rw [← hv4.out, ← hs4.len]
      constructor
      · intro e; rw [List.eq_nil_of_length_eq_zero e]; rfl
      · intro e; rw [norm_zero hs4.lim hn4 e]; rfl
    clear hb3 hB2 hs1 hn4
    go_wp2_with fail
    refine (rtwice_any A4 n4 c4 l4 false _ hs4 (by omega)).mono ?_
    rintro e w4 ⟨A5, n5, c5, l5, rfl, hs5, hn5, hv5, _, hb4⟩
    have hv5 : Hid (natV l5 = 2 * (m % u)) := by unfold Hid; rw [hv5, hv4.out]; show 2 * (m % u) + 0 = _; omega
    have n5b : n5 ≤ 8 := hs5.small hn5 (by rw [hv5.out]; omega)
    have hs3 := hs3.on hb4
    have hs2 := hs2.on hb4
    have hB4 := hB3.trans (hb4.mono hB3.size)
    clear hb4 hB3 hn5 hs4
    go_wp2_with fail
    refine (rcmp_any A5 A2 n5 n2 c5 c2 l5 l2 _ hs5 hs2 (by omega) (by omega)).mono ?_
    rintro e w5 ⟨rfl, hb5⟩
    rw [hv5.out, hv2.out, ← f1.out]
    have hs3 := hs3.on hb5
    have hB5 := hB4.trans (hb5.mono hB4.size)
    have FIN := Lib.hid (MK.out A3 n3 c3 l3 w5 hs3 hn3 hv3.out hB5)
    clear hs3 hs2 hs5 hb5 hB4 hB5 MK hn3
    by_cases z : n4 = 0
    · have t1 : ((n4 : Int) == 0) = true := by simp [z]
      have f2 : Hid (ex = true) := by unfold Hid; rw [f2.out, Z4.out.1 z]; rfl
      rw [f2.out] at FIN
      have z := Lib.hid z
      go_wp2
      go_ret3
      exact FIN.out
    · have t1 : ((n4 : Int) == 0) = false := by simpa using z
      have f2 : Hid (ex = false) := by unfold Hid; rw [f2.out]; simpa using mt Z4.out.2 z
      rw [f2.out] at FIN
      have z := Lib.hid z
      go_wp2
      go_ret3
      exact FIN.out

/-- The document's Is. -/
theorem ris6_any (x : Int) (h : Word x) (w : World) : Calls Try.prog 14 #[.int .u64 x] w (BoolPost (isB x) w) := by
  obtain ⟨k, hk⟩ : ∃ z, kindI x = z := ⟨_, rfl⟩
  have K := Lib.hid (fun W => rkind_vars x k h hk W)
  have C := Lib.hid (fun W => parts6_any x h W)
  obtain ⟨l, hl⟩ : ∃ z, (leftI x == 0) = z := ⟨_, rfl⟩
  have HL := Lib.hid hl
  have IB : Hid (isB x = (decide (k < 3) && l)) := by unfold Hid isB; rw [hk, hl]
  generalize isB x = b at *
  clear hk hl h
  by_cases c : 3 ≤ k
  · have fin : Hid (b = false) := by unfold Hid; rw [IB.out]; simp [show ¬ k < 3 by omega]
    clear IB
    go_enter Try.func14, Try.ntmps14
    go_wp2_with (go_at_call 30; refine (K.out _).mono ?_; rintro e w' ⟨rfl, rfl⟩)
    go_ret
    exact ⟨by rw [fin.out]; rfl, Below.refl _ _⟩
  · have fin : Hid (b = l) := by unfold Hid; rw [IB.out]; simp [show k < 3 by omega]
    clear IB
    go_enter Try.func14, Try.ntmps14
    go_wp2_with (go_at_call 30; refine (K.out _).mono ?_; rintro e w' ⟨rfl, rfl⟩)
    refine (C.out _).mono ?_
    rintro e w1 ⟨A1, n1, c1, l1, rfl, hs1, hn1, hv1, hb1⟩
    rw [HL.out]
    clear hs1 hn1 hv1
    go_wp2
    go_ret
    exact ⟨by rw [fin.out]; rfl, hb1⟩
end Go.Proofs.Ytomeidbigofnaaa
