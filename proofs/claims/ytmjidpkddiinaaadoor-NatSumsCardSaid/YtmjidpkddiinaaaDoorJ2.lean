/-
  What NatSums answers: true.
-/
import Derived.Test.YtmjidpkddiinaaaDoorH2
import Derived.Test.YtmjidpkddiinaaaDoorX7
namespace Go.Proofs.YtmjidpkddiinaaaDoor
open Go.RowKit Go.Shelf

set_option maxRecDepth 100000 in
set_option maxHeartbeats 8000000 in
theorem sums_any (A0 A1 : Option Addr) (n0 n1 c0 c1 : Nat) (l0 l1 : List Int) (W : World) (h0 : Sl W W.heap.size A0 n0 c0 l0) (h1 : Sl W W.heap.size A1 n1 c1 l1) :
    Calls Tryd.prog 4 #[.slice A0 n0 c0, .slice A1 n1 c1] W fun e W' => e = .returned (.bool true) ∧ Below W.heap.size W W' := by
  have HP0 := Lib.hid h0
  have HP1 := Lib.hid h1
  by_cases lg0 : 300 < n0
  · have m0 : (300 : Int) < (n0 : Int) := by omega
    clear h0 h1
    go_enter Tryd.func4, Tryd.ntmps4
    go_wp2_with fail
    refine (shown_any _).mono ?_
    rintro e x0 ⟨rfl, hb⟩
    go_wp2
    go_ret
    exact ⟨rfl, hb⟩
  by_cases lg1 : 300 < n1
  · have m0 : ¬ (300 : Int) < (n0 : Int) := by omega
    have m1 : (300 : Int) < (n1 : Int) := by omega
    clear h0 h1
    go_enter Tryd.func4, Tryd.ntmps4
    go_wp2_with fail
    refine (shown_any _).mono ?_
    rintro e x0 ⟨rfl, hb⟩
    go_wp2
    go_ret
    exact ⟨rfl, hb⟩
  have m0 : ¬ (300 : Int) < (n0 : Int) := by omega
  have m1 : ¬ (300 : Int) < (n1 : Int) := by omega
  obtain ⟨E1, V1, hE1⟩ : ∃ E V, addE (natV l0) (natV l1) = E ∧ addV (natV l0) (natV l1) = V := ⟨_, _, rfl, rfl⟩
  obtain ⟨E2, V2, hE2⟩ : ∃ E V, subE (natV l0) (natV l1) = E ∧ subV (natV l0) (natV l1) = V := ⟨_, _, rfl, rfl⟩
  obtain ⟨E3, V3, hE3⟩ : ∃ E V, mulE (natV l0) (natV l1) = E ∧ mulV (natV l0) (natV l1) = V := ⟨_, _, rfl, rfl⟩
  obtain ⟨E4, V4, V5, hE4⟩ : ∃ E V U, divE (natV l0) (natV l1) = E ∧ divQ (natV l0) (natV l1) = V ∧ divR (natV l0) (natV l1) = U := ⟨_, _, _, rfl, rfl, rfl⟩
  have C0 := Lib.hid (fun W' h h' => show Calls Tryd.prog 23 #[.slice A0 n0 c0, .slice A1 n1 c1] W' (NatRPost E1 V1 W') from by rw [← hE1.1, ← hE1.2]; exact nadd_all A0 A1 n0 n1 c0 c1 l0 l1 W' h h' (by omega) (by omega))
  have C1 := Lib.hid (fun W' h h' => show Calls Tryd.prog 24 #[.slice A0 n0 c0, .slice A1 n1 c1] W' (NatRPost E1 V1 W') from by rw [← hE1.1, ← hE1.2]; exact radd_all A0 A1 n0 n1 c0 c1 l0 l1 W' h h' (by omega) (by omega))
  have C2 := Lib.hid (fun W' h h' => show Calls Tryd.prog 25 #[.slice A0 n0 c0, .slice A1 n1 c1] W' (NatRPost E2 V2 W') from by rw [← hE2.1, ← hE2.2]; exact nsub_all A0 A1 n0 n1 c0 c1 l0 l1 W' h h' (by omega) (by omega))
  have C3 := Lib.hid (fun W' h h' => show Calls Tryd.prog 26 #[.slice A0 n0 c0, .slice A1 n1 c1] W' (NatRPost E2 V2 W') from by rw [← hE2.1, ← hE2.2]; exact rsub_all A0 A1 n0 n1 c0 c1 l0 l1 W' h h' (by omega) (by omega))
  have C4 := Lib.hid (fun W' h h' => show Calls Tryd.prog 27 #[.slice A0 n0 c0, .slice A1 n1 c1] W' (NatRPost E3 V3 W') from by rw [← hE3.1, ← hE3.2]; exact nmul_all A0 A1 n0 n1 c0 c1 l0 l1 W' h h' (by omega) (by omega))
  have C5 := Lib.hid (fun W' h h' => show Calls Tryd.prog 28 #[.slice A0 n0 c0, .slice A1 n1 c1] W' (NatRPost E3 V3 W') from by rw [← hE3.1, ← hE3.2]; exact rmul_all A0 A1 n0 n1 c0 c1 l0 l1 W' h h' (by omega) (by omega))
  have D0 := Lib.hid (fun W' h h' => show Calls Tryd.prog 29 #[.slice A0 n0 c0, .slice A1 n1 c1] W' (NatR2Post E4 V4 V5 W') from by rw [← hE4.1, ← hE4.2.1, ← hE4.2.2]; exact ndiv_any A0 A1 n0 n1 c0 c1 l0 l1 W' h h' (by omega) (by omega))
  have D1 := Lib.hid (fun W' h h' => show Calls Tryd.prog 30 #[.slice A0 n0 c0, .slice A1 n1 c1] W' (NatQ2Post E4 V4 V5 W') from by rw [← hE4.1, ← hE4.2.1, ← hE4.2.2]; exact rdiv_any A0 A1 n0 n1 c0 c1 l0 l1 W' h h' (by omega) (by omega))
  have P0 := Lib.hid h0; have P1 := Lib.hid h1
  clear hE1 hE2 hE3 hE4 h0 h1 HP0 HP1
  go_enter Tryd.func4, Tryd.ntmps4
  have HB := Lib.hid (Below.refl W.heap.size W)
  go_wp2_with fail
  refine (shown_any _).mono ?_
  rintro e x1 ⟨rfl, hb⟩
  replace HB := Lib.hid (via1' (w := W) (X := _) HB.out hb)
  replace P0 := Lib.hid (P0.out.on hb)
  replace P1 := Lib.hid (P1.out.on hb)
  clear hb
  go_wp2_with fail
  refine (C0.out _ P0.out P1.out).mono ?_
  rintro e x2 ⟨At, nt, ct, lt, rfl, Pt, h1, h2, _, hb⟩
  replace HB := Lib.hid (via1' (w := W) (X := _) HB.out hb)
  replace P0 := Lib.hid (P0.out.on hb)
  replace P1 := Lib.hid (P1.out.on hb)
  clear hb
  replace Pt := Lib.hid Pt
  have Nt := Lib.hid (And.intro h1 h2)
  clear h1 h2
  go_wp2_with fail
  refine (C1.out _ P0.out P1.out).mono ?_
  rintro e x3 ⟨Au, nu, cu, lu, rfl, Pu, h1, h2, _, hb⟩
  replace HB := Lib.hid (via1' (w := W) (X := _) HB.out hb)
  replace P0 := Lib.hid (P0.out.on hb)
  replace P1 := Lib.hid (P1.out.on hb)
  replace Pt := Lib.hid (Pt.out.on hb)
  clear hb
  replace Pu := Lib.hid Pu
  have Nu := Lib.hid (And.intro h1 h2)
  clear h1 h2
  have Qu := Lib.hid (show Sl _ _ Au nu cu lt by have := Pu.out; rw [show lu = lt from norm_unique Pu.out.lim Pt.out.lim Nu.out.1 Nt.out.1 (Nu.out.2.trans Nt.out.2.symm)] at this; exact this)
  go_wp2_with fail
  refine (same_all _ _ _ _ _ _ lt _ Pt.out Qu.out).mono ?_
  rintro e x4 ⟨rfl, hb⟩
  replace HB := Lib.hid (via1' (w := W) (X := _) HB.out hb)
  replace P0 := Lib.hid (P0.out.on hb)
  replace P1 := Lib.hid (P1.out.on hb)
  clear hb
  clear Pt Pu Qu Nt Nu
  go_wp2_with fail
  refine (C2.out _ P0.out P1.out).mono ?_
  rintro e x5 ⟨At, nt, ct, lt, rfl, Pt, h1, h2, _, hb⟩
  replace HB := Lib.hid (via1' (w := W) (X := _) HB.out hb)
  replace P0 := Lib.hid (P0.out.on hb)
  replace P1 := Lib.hid (P1.out.on hb)
  clear hb
  replace Pt := Lib.hid Pt
  have Nt := Lib.hid (And.intro h1 h2)
  clear h1 h2
  go_wp2_with fail
  refine (C3.out _ P0.out P1.out).mono ?_
  rintro e x6 ⟨Au, nu, cu, lu, rfl, Pu, h1, h2, _, hb⟩
  replace HB := Lib.hid (via1' (w := W) (X := _) HB.out hb)
  replace P0 := Lib.hid (P0.out.on hb)
  replace P1 := Lib.hid (P1.out.on hb)
  replace Pt := Lib.hid (Pt.out.on hb)
  clear hb
  replace Pu := Lib.hid Pu
  have Nu := Lib.hid (And.intro h1 h2)
  clear h1 h2
  have Qu := Lib.hid (show Sl _ _ Au nu cu lt by have := Pu.out; rw [show lu = lt from norm_unique Pu.out.lim Pt.out.lim Nu.out.1 Nt.out.1 (Nu.out.2.trans Nt.out.2.symm)] at this; exact this)
  go_wp2_with fail
  refine (same_all _ _ _ _ _ _ lt _ Pt.out Qu.out).mono ?_
  rintro e x7 ⟨rfl, hb⟩
  replace HB := Lib.hid (via1' (w := W) (X := _) HB.out hb)
  replace P0 := Lib.hid (P0.out.on hb)
  replace P1 := Lib.hid (P1.out.on hb)
  clear hb
  clear Pt Pu Qu Nt Nu
  go_wp2_with fail
  refine (C4.out _ P0.out P1.out).mono ?_
  rintro e x8 ⟨At, nt, ct, lt, rfl, Pt, h1, h2, _, hb⟩
  replace HB := Lib.hid (via1' (w := W) (X := _) HB.out hb)
  replace P0 := Lib.hid (P0.out.on hb)
  replace P1 := Lib.hid (P1.out.on hb)
  clear hb
  replace Pt := Lib.hid Pt
  have Nt := Lib.hid (And.intro h1 h2)
  clear h1 h2
  go_wp2_with fail
  refine (C5.out _ P0.out P1.out).mono ?_
  rintro e x9 ⟨Au, nu, cu, lu, rfl, Pu, h1, h2, _, hb⟩
  replace HB := Lib.hid (via1' (w := W) (X := _) HB.out hb)
  replace P0 := Lib.hid (P0.out.on hb)
  replace P1 := Lib.hid (P1.out.on hb)
  replace Pt := Lib.hid (Pt.out.on hb)
  clear hb
  replace Pu := Lib.hid Pu
  have Nu := Lib.hid (And.intro h1 h2)
  clear h1 h2
  have Qu := Lib.hid (show Sl _ _ Au nu cu lt by have := Pu.out; rw [show lu = lt from norm_unique Pu.out.lim Pt.out.lim Nu.out.1 Nt.out.1 (Nu.out.2.trans Nt.out.2.symm)] at this; exact this)
  go_wp2_with fail
  refine (same_all _ _ _ _ _ _ lt _ Pt.out Qu.out).mono ?_
  rintro e x10 ⟨rfl, hb⟩
  replace HB := Lib.hid (via1' (w := W) (X := _) HB.out hb)
  replace P0 := Lib.hid (P0.out.on hb)
  replace P1 := Lib.hid (P1.out.on hb)
  clear hb
  clear Pt Pu Qu Nt Nu
  have b1 : (E1 == E1) = true := beq_self_eq_true E1
  have b2 : (E2 == E2) = true := beq_self_eq_true E2
  have b3 : (E3 == E3) = true := beq_self_eq_true E3
  have b4 : (E1 != E1) = false := by simp
  have b5 : (E2 != E2) = false := by simp
  have b6 : (E3 != E3) = false := by simp
  have b7 : (E4 == E4) = true := beq_self_eq_true E4
  by_cases s0 : 40 < n0
  · have s0' : (40 : Int) < (n0 : Int) := by omega
    by_cases s1 : 40 < n1
    · have s1' : (40 : Int) < (n1 : Int) := by omega
      by_cases s2 : E3 = 0
      · have s2' : (E3 == 0) = true := by simpa using s2
        clear s2
        go_wp2
        go_ret
        exact ⟨rfl, HB.out⟩
      · have s2' : (E3 == 0) = false := by simpa using s2
        go_wp2_with fail
        refine (D0.out _ P0.out P1.out).mono ?_
        rintro e x31 ⟨At, nt, ct, lt, As, ns, cs, ls, rfl, ⟨Pt, h1, h2, _⟩, ⟨Ps, g1, g2, _⟩, hb⟩
        replace HB := Lib.hid (via1' (w := W) (X := _) HB.out hb)
        replace P0 := Lib.hid (P0.out.on hb)
        replace P1 := Lib.hid (P1.out.on hb)
        clear hb
        replace Pt := Lib.hid Pt
        have Nt := Lib.hid (And.intro h1 h2)
        clear h1 h2
        replace Ps := Lib.hid Ps
        have Ns := Lib.hid (And.intro g1 g2)
        clear g1 g2
        go_wp2_with fail
        refine (D1.out _ P0.out P1.out).mono ?_
        rintro e x32 ⟨Au, nu, cu, lu, Av, nv, cv, lv, rfl, ⟨Pu, h1, h2⟩, ⟨Pv, g1, g2⟩, hb⟩
        replace HB := Lib.hid (via1' (w := W) (X := _) HB.out hb)
        replace P0 := Lib.hid (P0.out.on hb)
        replace P1 := Lib.hid (P1.out.on hb)
        replace Pt := Lib.hid (Pt.out.on hb)
        replace Ps := Lib.hid (Ps.out.on hb)
        clear hb
        replace Pu := Lib.hid Pu
        have Nu := Lib.hid (And.intro h1 h2)
        clear h1 h2
        replace Pv := Lib.hid Pv
        have Nv := Lib.hid (And.intro g1 g2)
        clear g1 g2
        have Qu := Lib.hid (show Sl _ _ Au nu cu lt by have := Pu.out; rw [show lu = lt from norm_unique Pu.out.lim Pt.out.lim Nu.out.1 Nt.out.1 (Nu.out.2.trans Nt.out.2.symm)] at this; exact this)
        go_wp2_with fail
        refine (same_all _ _ _ _ _ _ lt _ Pt.out Qu.out).mono ?_
        rintro e x33 ⟨rfl, hb⟩
        replace HB := Lib.hid (via1' (w := W) (X := _) HB.out hb)
        replace P0 := Lib.hid (P0.out.on hb)
        replace P1 := Lib.hid (P1.out.on hb)
        replace Ps := Lib.hid (Ps.out.on hb)
        replace Pv := Lib.hid (Pv.out.on hb)
        clear hb
        clear Pt Pu Qu Nt Nu
        have Qv := Lib.hid (show Sl _ _ Av nv cv ls by have := Pv.out; rw [show lv = ls from norm_unique Pv.out.lim Ps.out.lim Nv.out.1 Ns.out.1 (Nv.out.2.trans Ns.out.2.symm)] at this; exact this)
        go_wp2_with fail
        refine (same_all _ _ _ _ _ _ ls _ Ps.out Qv.out).mono ?_
        rintro e x34 ⟨rfl, hb⟩
        replace HB := Lib.hid (via1' (w := W) (X := _) HB.out hb)
        replace P0 := Lib.hid (P0.out.on hb)
        replace P1 := Lib.hid (P1.out.on hb)
        clear hb
        clear Ps Pv Qv Ns Nv
        go_wp2
        go_ret
        exact ⟨by simp, HB.out⟩
    · have s1' : ¬ (40 : Int) < (n1 : Int) := by omega
      go_wp2_with fail
      refine (D0.out _ P0.out P1.out).mono ?_
      rintro e x31 ⟨At, nt, ct, lt, As, ns, cs, ls, rfl, ⟨Pt, h1, h2, _⟩, ⟨Ps, g1, g2, _⟩, hb⟩
      replace HB := Lib.hid (via1' (w := W) (X := _) HB.out hb)
      replace P0 := Lib.hid (P0.out.on hb)
      replace P1 := Lib.hid (P1.out.on hb)
      clear hb
      replace Pt := Lib.hid Pt
      have Nt := Lib.hid (And.intro h1 h2)
      clear h1 h2
      replace Ps := Lib.hid Ps
      have Ns := Lib.hid (And.intro g1 g2)
      clear g1 g2
      go_wp2_with fail
      refine (D1.out _ P0.out P1.out).mono ?_
      rintro e x32 ⟨Au, nu, cu, lu, Av, nv, cv, lv, rfl, ⟨Pu, h1, h2⟩, ⟨Pv, g1, g2⟩, hb⟩
      replace HB := Lib.hid (via1' (w := W) (X := _) HB.out hb)
      replace P0 := Lib.hid (P0.out.on hb)
      replace P1 := Lib.hid (P1.out.on hb)
      replace Pt := Lib.hid (Pt.out.on hb)
      replace Ps := Lib.hid (Ps.out.on hb)
      clear hb
      replace Pu := Lib.hid Pu
      have Nu := Lib.hid (And.intro h1 h2)
      clear h1 h2
      replace Pv := Lib.hid Pv
      have Nv := Lib.hid (And.intro g1 g2)
      clear g1 g2
      have Qu := Lib.hid (show Sl _ _ Au nu cu lt by have := Pu.out; rw [show lu = lt from norm_unique Pu.out.lim Pt.out.lim Nu.out.1 Nt.out.1 (Nu.out.2.trans Nt.out.2.symm)] at this; exact this)
      go_wp2_with fail
      refine (same_all _ _ _ _ _ _ lt _ Pt.out Qu.out).mono ?_
      rintro e x33 ⟨rfl, hb⟩
      replace HB := Lib.hid (via1' (w := W) (X := _) HB.out hb)
      replace P0 := Lib.hid (P0.out.on hb)
      replace P1 := Lib.hid (P1.out.on hb)
      replace Ps := Lib.hid (Ps.out.on hb)
      replace Pv := Lib.hid (Pv.out.on hb)
      clear hb
      clear Pt Pu Qu Nt Nu
      have Qv := Lib.hid (show Sl _ _ Av nv cv ls by have := Pv.out; rw [show lv = ls from norm_unique Pv.out.lim Ps.out.lim Nv.out.1 Ns.out.1 (Nv.out.2.trans Ns.out.2.symm)] at this; exact this)
      go_wp2_with fail
      refine (same_all _ _ _ _ _ _ ls _ Ps.out Qv.out).mono ?_
      rintro e x34 ⟨rfl, hb⟩
      replace HB := Lib.hid (via1' (w := W) (X := _) HB.out hb)
      replace P0 := Lib.hid (P0.out.on hb)
      replace P1 := Lib.hid (P1.out.on hb)
      clear hb
      clear Ps Pv Qv Ns Nv
      go_wp2
      go_ret
      exact ⟨by simp, HB.out⟩
  · have s0' : ¬ (40 : Int) < (n0 : Int) := by omega
    go_wp2_with fail
    refine (D0.out _ P0.out P1.out).mono ?_
    rintro e x31 ⟨At, nt, ct, lt, As, ns, cs, ls, rfl, ⟨Pt, h1, h2, _⟩, ⟨Ps, g1, g2, _⟩, hb⟩
    replace HB := Lib.hid (via1' (w := W) (X := _) HB.out hb)
    replace P0 := Lib.hid (P0.out.on hb)
    replace P1 := Lib.hid (P1.out.on hb)
    clear hb
    replace Pt := Lib.hid Pt
    have Nt := Lib.hid (And.intro h1 h2)
    clear h1 h2
    replace Ps := Lib.hid Ps
    have Ns := Lib.hid (And.intro g1 g2)
    clear g1 g2
    go_wp2_with fail
    refine (D1.out _ P0.out P1.out).mono ?_
    rintro e x32 ⟨Au, nu, cu, lu, Av, nv, cv, lv, rfl, ⟨Pu, h1, h2⟩, ⟨Pv, g1, g2⟩, hb⟩
    replace HB := Lib.hid (via1' (w := W) (X := _) HB.out hb)
    replace P0 := Lib.hid (P0.out.on hb)
    replace P1 := Lib.hid (P1.out.on hb)
    replace Pt := Lib.hid (Pt.out.on hb)
    replace Ps := Lib.hid (Ps.out.on hb)
    clear hb
    replace Pu := Lib.hid Pu
    have Nu := Lib.hid (And.intro h1 h2)
    clear h1 h2
    replace Pv := Lib.hid Pv
    have Nv := Lib.hid (And.intro g1 g2)
    clear g1 g2
    have Qu := Lib.hid (show Sl _ _ Au nu cu lt by have := Pu.out; rw [show lu = lt from norm_unique Pu.out.lim Pt.out.lim Nu.out.1 Nt.out.1 (Nu.out.2.trans Nt.out.2.symm)] at this; exact this)
    go_wp2_with fail
    refine (same_all _ _ _ _ _ _ lt _ Pt.out Qu.out).mono ?_
    rintro e x33 ⟨rfl, hb⟩
    replace HB := Lib.hid (via1' (w := W) (X := _) HB.out hb)
    replace P0 := Lib.hid (P0.out.on hb)
    replace P1 := Lib.hid (P1.out.on hb)
    replace Ps := Lib.hid (Ps.out.on hb)
    replace Pv := Lib.hid (Pv.out.on hb)
    clear hb
    clear Pt Pu Qu Nt Nu
    have Qv := Lib.hid (show Sl _ _ Av nv cv ls by have := Pv.out; rw [show lv = ls from norm_unique Pv.out.lim Ps.out.lim Nv.out.1 Ns.out.1 (Nv.out.2.trans Ns.out.2.symm)] at this; exact this)
    go_wp2_with fail
    refine (same_all _ _ _ _ _ _ ls _ Ps.out Qv.out).mono ?_
    rintro e x34 ⟨rfl, hb⟩
    replace HB := Lib.hid (via1' (w := W) (X := _) HB.out hb)
    replace P0 := Lib.hid (P0.out.on hb)
    replace P1 := Lib.hid (P1.out.on hb)
    clear hb
    clear Ps Pv Qv Ns Nv
    go_wp2
    go_ret
    exact ⟨by simp, HB.out⟩
end Go.Proofs.YtmjidpkddiinaaaDoor
