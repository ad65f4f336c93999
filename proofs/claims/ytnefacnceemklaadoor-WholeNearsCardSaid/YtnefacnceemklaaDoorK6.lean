/-
  root.fused: walked.
-/
import Derived.Test.YtnefacnceemklaaDoorK6a
import Derived.Test.YtnefacnceemklaaDoorX7
namespace Go.Proofs.YtnefacnceemklaaDoor
open Go.RowKit Go.Shelf

theorem nat_short {w : World} {B : Nat} {A : Option Addr} {n c : Nat} {l : List Int} (h : Sl w B A n c l) (hn : Norm l) {v : Int} (hv : natV l = v) {k : Nat} (hb : v < pw (32 * (k : Int))) : n ≤ k := by
  rw [← h.len]; exact norm_len h.lim hn (by rw [hv]; exact hb)
theorem round5 (neg : Bool) (A : Option Addr) (n c : Nat) (l : List Int) (e : Int) (w : World) (h : Sl w w.heap.size A n c l) (hn : n ≤ 30000) (he0 : -9223372036854775808 ≤ e) (he1 : e ≤ 9223372036854775807) {v r : Int} (hv : natV l = v) (hr : rndI neg v e = r) :
    Calls Tryd.prog 89 #[.bool neg, .slice A n c, .int .i64 e, .bool false] w (WordPost r w) := by
  have t := round_sl neg A n c l e false w h hn he0 he1
  rw [hv] at t
  rw [← hr]; exact t
set_option maxRecDepth 100000 in
set_option maxHeartbeats 8000000 in
theorem fused_any (a b c : Int) (h1 : Word a) (h2 : Word b) (h3 : Word c) (z1 : mantI a ≠ 0) (z2 : mantI b ≠ 0) (w : World) :
    Calls Tryd.prog 52 #[.int .u64 a, .int .u64 b, .int .u64 c] w (WordPost (R2 (sgn (negB a != negB b) (XI a * XI b) + sgn (negB c) (XI c * pw 1074))) w) := by
  obtain ⟨L, hL⟩ : ∃ L, min (powI a + powI b) (powI c) = L := ⟨_, rfl⟩
  obtain ⟨u1, u2, L0, L1⟩ := fma_units h1 h2 h3 hL.symm
  obtain ⟨P0, P1, P2, C2⟩ := fma_bounds h1 h2 h3 hL.symm
  obtain ⟨a0, a1, p0, p1⟩ := mant_bd a h1
  obtain ⟨b0, b1, q0, q1⟩ := mant_bd b h2
  obtain ⟨c0, c1, r0, r1⟩ := mant_bd c h3
  have SA := Lib.hid (fun W => split_vars a _ _ _ h1 rfl rfl rfl W)
  have SB := Lib.hid (fun W => split_vars b _ _ _ h2 rfl rfl rfl W)
  have SC := Lib.hid (fun W => split_vars c _ _ _ h3 rfl rfl rfl W)
  have hx := sign_xor a b h1 h2
  have hne : (signI (negB a != negB b) != 0) = (negB a != negB b) := by cases (negB a != negB b) <;> rfl
  have Ppos : 0 < mantI a * mantI b := Int.mul_pos (by omega) (by omega)
  obtain ⟨wh, wl, w1, w2, wv⟩ := words (mantI a * mantI b) P0 P1
  have ML : Hid (∀ w, Calls Tryd.prog 61 #[.int .u64 (mantI a), .int .u64 (mantI b)] w fun e w' => e = .returned (.agg #[.int .u64 wh, .int .u64 wl]) ∧ Below w.heap.size w w') := fun w =>
    (mul_any _ _ ⟨a0, by omega⟩ ⟨b0, by omega⟩ w).mono (U128Post.at w1 w2 wv w)
  have RU := Lib.hid (fun (bb : Bool) (v : Int) (H : IsSum (sgn (negB a != negB b) (mantI a * mantI b * pw (powI a + powI b - L)) + sgn (negB c) (mantI c * pw (powI c - L))) bb v) (hv : v ≠ 0) => R2_units L0 H hv)
  have RN := Lib.hid (fun (bb : Bool) (H : IsSum (sgn (negB a != negB b) (mantI a * mantI b * pw (powI a + powI b - L)) + sgn (negB c) (mantI c * pw (powI c - L))) bb 0) => R2_none (L := L) H)
  rw [← u1, ← u2] at RU RN
  have OH := Lib.hid (fun W => nof_any wh w1 W)
  have OL := Lib.hid (fun W => nof_any wl w2 W)
  have OC := Lib.hid (fun W => nof_any (mantI c) ⟨c0, by omega⟩ W)
  have wv' : Hid (wh * pw 64 + wl = mantI a * mantI b) := by unfold Hid; rw [← wv, pw_64]; rfl
  have wh1 : wh < 18446744073709551616 := w1.2
  have wl0 := w2.1
  have wh0 := w1.1
  have wl1 : wl < 18446744073709551616 := w2.2
  obtain ⟨P, hP⟩ : ∃ P, mantI a * mantI b * pw (powI a + powI b - L) = P := ⟨_, rfl⟩
  obtain ⟨C, hC⟩ : ∃ C, mantI c * pw (powI c - L) = C := ⟨_, rfl⟩
  have P3 : 0 < P := by rw [← hP]; exact Int.mul_pos Ppos (pw_pos _)
  have C3 : 0 ≤ C := by rw [← hC]; exact Int.mul_nonneg c0 (Int.le_of_lt (pw_pos _))
  rw [hP, hC] at RU RN
  rw [hP] at P2
  rw [hC] at C2
  have HP := Lib.hid hP; have HC := Lib.hid hC
  have HL := Lib.hid hL
  generalize R2 (sgn (negB a != negB b) (XI a * XI b) + sgn (negB c) (XI c * pw 1074)) = r at *
  generalize mantI a * mantI b = P00 at *
  generalize mantI a = ma at *
  generalize mantI b = mb at *
  generalize mantI c = mc at *
  generalize powI a = pa at *
  generalize powI b = pb at *
  generalize powI c = pc at *
  generalize (negB a != negB b) = s at *
  generalize negB c = t at *
  have dP : 0 ≤ pa + pb - L := by omega
  have dC : 0 ≤ pc - L := by omega
  have dP1 : pa + pb - L ≤ 4000 := by omega
  have dC1 : pc - L ≤ 4000 := by omega
  have p32 : Hid (pw 3200 < pw 8190) := by
    have x := pw_mono (a := 3200) (b := 8189) (by decide) (by decide)
    have y := pw_half 8190 (by decide)
    rw [show (8190 : Int) - 1 = 8189 by decide] at y
    have := pw_pos 8189
    unfold Hid; omega
  have p192 : Hid (pw 64 * 18446744073709551616 < pw 8190) := by
    have x := pw_mono (a := 129) (b := 8190) (by decide) (by decide)
    unfold Hid
    rw [show pw 64 = 18446744073709551616 from rfl]
    rw [show pw 129 = 680564733841876926926749214863536422912 from rfl] at x
    omega
  clear h1 h2 h3 z1 z2 w1 w2 wv u1 u2 hP hC P0 Ppos
  have WH := Lib.hid (show wh * pw 64 < pw 8190 by
    have := Int.mul_le_mul_of_nonneg_right (show wh ≤ 18446744073709551616 by omega) (Int.le_of_lt (pw_pos 64))
    have := p192.out
    rw [Int.mul_comm] at this; omega)
  have WL := Lib.hid (show wl < pw 8190 by
    have := p192.out
    rw [show pw 64 = 18446744073709551616 from rfl] at this; omega)
  go_enter Tryd.func52, Tryd.ntmps52
  go_wp2_with fail
  refine (SA.out _).mono ?_
  rintro e w' ⟨rfl, rfl⟩
  go_wp2_with fail
  refine (SB.out _).mono ?_
  rintro e w' ⟨rfl, rfl⟩
  go_wp2_with fail
  refine (SC.out _).mono ?_
  rintro e w' ⟨rfl, rfl⟩
  go_wp2_with fail
  refine (ML.out _).mono ?_
  rintro e w1 ⟨rfl, hb1⟩
  go_wp2_with fail
  obtain ⟨g, hg⟩ : ∃ g, w1.heap.size = g := ⟨_, rfl⟩
  have b0' : Below w.heap.size w (w1.alloc (.cells #[.int .u64 wh, .int .u64 wl] 44)) := hb1.alloc hb1.size _
  have c0' : (w1.alloc (.cells #[.int .u64 wh, .int .u64 wl] 44)).cell? ⟨g, 1, none⟩ = some (.int .u64 wl) := by rw [← hg]; simp [go_sem]
  have z0' : g < (w1.alloc (.cells #[.int .u64 wh, .int .u64 wl] 44)).heap.size := by rw [← hg]; simp
  rw [hg]
  generalize w1.alloc (.cells #[.int .u64 wh, .int .u64 wl] 44) = v1 at *
  clear hg hb1
  refine (OH.out _).mono ?_
  rintro e v2 ⟨A2, n2, d2, l2, rfl, hs2, hn2, hv2, fr2, hb2⟩
  have q2 : n2 ≤ 10 := nat_short hs2 hn2 hv2 (k := 10) (by have := pw_mono (a := 64) (b := 32 * ((10 : Nat) : Int)) (by decide) (by decide); rw [pw_64] at this; omega)
  have c2' := (bcell hb2).1 g 1 z0'
  rw [c0'] at c2'
  have z2' : g < v2.heap.size := Nat.lt_of_lt_of_le z0' hb2.size
  have B2 := b0'.trans (hb2.mono b0'.size)
  have S3 := Lib.hid (nshl_any A2 n2 d2 l2 64 v2 hs2 (by omega) (by decide) (by rw [hv2]; have := pw_mono (a := 8190) (b := 8192) (by decide) (by decide); have := WH.out; omega))
  rw [hv2] at S3
  clear hs2 hn2 hv2 fr2 hb2 b0' c0' z0' OH
  go_wp2_with fail
  refine S3.out.mono ?_
  rintro e v3 ⟨A3, n3, d3, l3, rfl, hs3, hn3, hv3, fr3, hb3⟩
  have q3 : n3 ≤ 10 := nat_short hs3 hn3 hv3 (k := 10) (by have := pw_mono (a := 128) (b := 32 * ((10 : Nat) : Int)) (by decide) (by decide); rw [show pw 128 = 340282366920938463463374607431768211456 from rfl] at this; have := wv'.out; omega)
  have c3' := (bcell hb3).1 g 1 z2'
  rw [c2'] at c3'
  have z3' : g < v3.heap.size := Nat.lt_of_lt_of_le z2' hb3.size
  have B3 := B2.trans (hb3.mono B2.size)
  clear S3 hn3 fr3 hb3 c2' z2' B2
  have hs3 := Lib.hid hs3
  go_wp2_with fail
  refine (OL.out _).mono ?_
  rintro e v4 ⟨A4, n4, d4, l4, rfl, hs4, hn4, hv4, fr4, hb4⟩
  have q4 : n4 ≤ 10 := nat_short hs4 hn4 hv4 (k := 10) (by have := pw_mono (a := 64) (b := 32 * ((10 : Nat) : Int)) (by decide) (by decide); rw [pw_64] at this; omega)
  have B4 := B3.trans (hb4.mono B3.size)
  have S5 := Lib.hid (nadd_any A3 A4 n3 n4 d3 d4 l3 l4 v4 (hs3.out.on hb4) hs4 (by omega) (by omega) (by rw [hv3]; exact WH.out) (by rw [hv4]; exact WL.out))
  rw [hv3, hv4, wv'.out] at S5
  clear hs4 hn4 hv4 fr4 hb4 c3' z3' B3 hs3 hv3 OL WH WL
  go_wp2_with fail
  refine S5.out.mono ?_
  rintro e v5 ⟨A5, n5, d5, l5, rfl, hs5, hn5, hv5, fr5, hb5⟩
  have q5 : n5 ≤ 10 := nat_short hs5 hn5 hv5 (k := 10) (by have := pw_mono (a := 128) (b := 32 * ((10 : Nat) : Int)) (by decide) (by decide); rw [show pw 128 = 340282366920938463463374607431768211456 from rfl] at this; omega)
  have B5 := B4.trans (hb5.mono B4.size)
  have S6 := Lib.hid (nshl_any A5 n5 d5 l5 (pa + pb - L) v5 hs5 (by omega) dP (by rw [hv5, HP.out]; have := pw_mono (a := 8190) (b := 8192) (by decide) (by decide); have := p32.out; omega))
  rw [hv5, HP.out] at S6
  clear S5 hs5 hn5 hv5 fr5 hb5 B4
  go_wp2_with fail
  refine S6.out.mono ?_
  rintro e v6 ⟨A6, n6, d6, l6, rfl, hs6, hn6, hv6, fr6, hb6⟩
  have q6 : n6 ≤ 100 := nat_short hs6 hn6 hv6 (k := 100) (by exact P2)
  have B6 := B5.trans (hb6.mono B5.size)
  have hs6 := Lib.hid hs6
  have hv6 := Lib.hid hv6
  clear S6 hn6 fr6 hb6 B5
  go_wp2_with fail
  refine (OC.out _).mono ?_
  rintro e v7 ⟨A7, n7, d7, l7, rfl, hs7, hn7, hv7, fr7, hb7⟩
  have q7 : n7 ≤ 10 := nat_short hs7 hn7 hv7 (k := 10) (by have := pw_mono (a := 64) (b := 32 * ((10 : Nat) : Int)) (by decide) (by decide); rw [pw_64] at this; omega)
  have B7 := B6.trans (hb7.mono B6.size)
  have S8 := Lib.hid (nshl_any A7 n7 d7 l7 (pc - L) v7 hs7 (by omega) dC (by rw [hv7, HC.out]; have := pw_mono (a := 8190) (b := 8192) (by decide) (by decide); have := p32.out; omega))
  rw [hv7, HC.out] at S8
  have hs6 := Lib.hid (hs6.out.on hb7)
  clear hs7 hn7 hv7 fr7 hb7 B6 OC
  go_wp2_with fail
  refine S8.out.mono ?_
  rintro e v8 ⟨A8, n8, d8, l8, rfl, hs8, hn8, hv8, fr8, hb8⟩
  have q8 : n8 ≤ 100 := nat_short hs8 hn8 hv8 (k := 100) (by exact C2)
  have B8 := Lib.hid (B7.trans (hb8.mono B7.size))
  have hs6 := Lib.hid (hs6.out.on hb8)
  have hs8 := Lib.hid hs8
  have hv8 := Lib.hid hv8
  clear S8 hn8 fr8 hb8 B7
  have PC : Hid (P + C < pw (32 * ((101 : Nat) : Int))) := by
    have x := pw_half 3201 (by decide)
    rw [show (3201 : Int) - 1 = 3200 by decide] at x
    have := pw_mono (a := 3201) (b := 32 * ((101 : Nat) : Int)) (by decide) (by decide)
    unfold Hid; omega
  have C2' := Lib.hid C2; have P2' := Lib.hid P2
  by_cases e : t = s
  · subst e
    have tt : (t == t) = true := beq_self_eq_true t
    have fin := Lib.hid (RU.out t (P + C) (sgn_same (by omega) C3 rfl) (by omega))
    have S9 := Lib.hid (nadd_any A6 A8 n6 n8 d6 d8 l6 l8 v8 hs6.out hs8.out (by omega) (by omega) (by rw [hv6.out]; have := p32.out; omega) (by rw [hv8.out]; have := p32.out; omega))
    rw [hv6.out, hv8.out] at S9
    clear RU RN hs6 hs8 hv6 hv8 p32 p192 HP HC HL C2 P2 C2' P2'
    go_wp2_with fail
    refine S9.out.mono ?_
    rintro e v9 ⟨A9, n9, d9, l9, rfl, hs9, hn9, hv9, fr9, hb9⟩
    have q9 : n9 ≤ 101 := nat_short hs9 hn9 hv9 (k := 101) PC.out
    have B9 := Lib.hid (B8.out.trans (hb9.mono B8.out.size))
    have S10 := Lib.hid (round5 t A9 n9 d9 l9 L v9 hs9 (by omega) (by omega) (by omega) hv9 fin.out.symm)
    clear hs9 hn9 hv9 fr9 hb9 S9 PC B8
    go_wp2_with fail
    refine S10.out.mono ?_
    rintro e v10 ⟨rfl, hb10⟩
    have B10 := Lib.hid (B9.out.trans (hb10.mono B9.out.size))
    clear hb10 B9 S10 fin
    go_wp2
    go_ret
    exact ⟨rfl, B10.out⟩
  · have te : (t == s) = false := by simpa using e
    have se : (s == t) = false := by simpa using fun h => e h.symm
    have CM := Lib.hid (ncmp_any A6 A8 n6 n8 d6 d8 l6 l8 v8 hs6.out hs8.out (by omega) (by omega))
    rw [hv6.out, hv8.out] at CM
    rcases Int.lt_trichotomy P C with g1 | g1 | g1
    · have fin := Lib.hid (RU.out t (C - P) (sgn_lt (by omega) C3 se g1) (by omega))
      have cr : cmpI P C = -1 := by unfold cmpI; rw [if_pos g1]
      rw [cr] at CM
      clear RU RN p192 HP HC HL C2 P2
      go_wp2_with fail
      refine CM.out.mono ?_
      rintro e v9 ⟨rfl, hb9⟩
      have S9 := Lib.hid (nsub_any A8 A6 n8 n6 d8 d6 l8 l6 v9 (hs8.out.on hb9) (hs6.out.on hb9) (by omega) (by omega) (by rw [hv8.out]; have := pw_mono (a := 8190) (b := 8192) (by decide) (by decide); have := p32.out; have := C2'.out; omega) (by rw [hv8.out, hv6.out]; omega))
      rw [hv6.out, hv8.out] at S9
      have B9 := Lib.hid (B8.out.trans (hb9.mono B8.out.size))
      clear hs6 hs8 hv6 hv8 p32 C2' P2' hb9 B8 CM
      go_wp2_with fail
      refine S9.out.mono ?_
      rintro e v10 ⟨A9, n9, d9, l9, rfl, hs9, hn9, hv9, fr9, hb10⟩
      have q9 : n9 ≤ 101 := nat_short hs9 hn9 hv9 (k := 101) (by have := PC.out; omega)
      have B10 := Lib.hid (B9.out.trans (hb10.mono B9.out.size))
      have S10 := Lib.hid (round5 t A9 n9 d9 l9 L v10 hs9 (by omega) (by omega) (by omega) hv9 fin.out.symm)
      clear hs9 hn9 hv9 fr9 hb10 S9 PC B9
      go_wp2_with fail
      refine S10.out.mono ?_
      rintro e v11 ⟨rfl, hb11⟩
      have B11 := Lib.hid (B10.out.trans (hb11.mono B10.out.size))
      clear hb11 B10 S10 fin
      go_wp2
      go_ret
      exact ⟨rfl, B11.out⟩
    · subst g1
      have fin := Lib.hid (RN.out s (by have := sgn_ge (n := s) (m := t) (X := P) (Y := P) (by omega) C3 se (Int.le_refl _); rw [Int.sub_self] at this; exact this))
      have cr : cmpI P P = 0 := by unfold cmpI; rw [if_neg (by omega), if_pos rfl]
      rw [cr] at CM
      clear RU RN p192 HP HC HL C2 P2 hs6 hs8 hv6 hv8 p32 PC C2' P2'
      go_wp2_with fail
      refine CM.out.mono ?_
      rintro e v9 ⟨rfl, hb9⟩
      have B9 := Lib.hid (B8.out.trans (hb9.mono B8.out.size))
      clear hb9 B8 CM
      go_wp2
      go_ret
      exact ⟨by rw [fin.out]; rfl, B9.out⟩
    · have ts : (!t) = s := by cases t <;> cases s <;> simp at te ⊢
      have fin := Lib.hid (RU.out s (P - C) (sgn_ge (by omega) C3 se (by omega)) (by omega))
      have cr : cmpI P C = 1 := by unfold cmpI; rw [if_neg (by omega), if_neg (by omega)]
      rw [cr] at CM
      clear RU RN p192 HP HC HL C2 P2
      go_wp2_with fail
      refine CM.out.mono ?_
      rintro e v9 ⟨rfl, hb9⟩
      have S9 := Lib.hid (nsub_any A6 A8 n6 n8 d6 d8 l6 l8 v9 (hs6.out.on hb9) (hs8.out.on hb9) (by omega) (by omega) (by rw [hv6.out]; have := pw_mono (a := 8190) (b := 8192) (by decide) (by decide); have := p32.out; have := P2'.out; omega) (by rw [hv8.out, hv6.out]; omega))
      rw [hv6.out, hv8.out] at S9
      have B9 := Lib.hid (B8.out.trans (hb9.mono B8.out.size))
      clear hs6 hs8 hv6 hv8 p32 C2' P2' hb9 B8 CM
      go_wp2_with fail
      refine S9.out.mono ?_
      rintro e v10 ⟨A9, n9, d9, l9, rfl, hs9, hn9, hv9, fr9, hb10⟩
      have q9 : n9 ≤ 101 := nat_short hs9 hn9 hv9 (k := 101) (by have := PC.out; omega)
      have B10 := Lib.hid (B9.out.trans (hb10.mono B9.out.size))
      have S10 := Lib.hid (round5 s A9 n9 d9 l9 L v10 hs9 (by omega) (by omega) (by omega) hv9 fin.out.symm)
      clear hs9 hn9 hv9 fr9 hb10 S9 PC B9
      go_wp2_with fail
      refine S10.out.mono ?_
      rintro e v11 ⟨rfl, hb11⟩
      have B11 := Lib.hid (B10.out.trans (hb11.mono B10.out.size))
      clear hb11 B10 S10 fin
      go_wp2
      go_ret
      exact ⟨rfl, B11.out⟩
end Go.Proofs.YtnefacnceemklaaDoor
