/-
  What NatShifts answers: true.
-/
import Derived.Test.YtmjidpkddiinaaaDoorH2
import Derived.Test.YtmjidpkddiinaaaDoorX7
namespace Go.Proofs.YtmjidpkddiinaaaDoor
open Go.RowKit Go.Shelf

set_option maxRecDepth 100000 in
set_option maxHeartbeats 8000000 in
theorem shifts_any (A0 : Option Addr) (n0 c0 : Nat) (l0 : List Int) (z b p : Int) (W : World) (h0 : Sl W W.heap.size A0 n0 c0 l0) (z0 : -9223372036854775808 ≤ z) (z1 : z ≤ 9223372036854775807) (b0 : -9223372036854775808 ≤ b) (b1 : b ≤ 9223372036854775807) (p0 : -9223372036854775808 ≤ p) (p1 : p ≤ 9223372036854775807) :
    Calls Tryd.prog 5 #[.slice A0 n0 c0, .int .i64 z, .int .i64 b, .int .i64 p] W fun e W' => e = .returned (.bool true) ∧ Below W.heap.size W W' := by
  have HP0 := Lib.hid h0
  by_cases lg0 : 300 < n0
  · have m0 : (300 : Int) < (n0 : Int) := by omega
    clear h0
    go_enter Tryd.func5, Tryd.ntmps5
    go_wp2_with fail
    refine (shown_any _).mono ?_
    rintro e x0 ⟨rfl, hb⟩
    go_wp2
    go_ret
    exact ⟨rfl, hb⟩
  have m0 : ¬ (300 : Int) < (n0 : Int) := by omega
  obtain ⟨E1, V1, hE1⟩ : ∃ E V, shlE (natV l0) z = E ∧ shlV (natV l0) z = V := ⟨_, _, rfl, rfl⟩
  obtain ⟨E2, V2, B2, hE2⟩ : ∃ E V B, shrE (natV l0) z = E ∧ shrV (natV l0) z = V ∧ shrL (natV l0) z = B := ⟨_, _, _, rfl, rfl, rfl⟩
  obtain ⟨E3, V3, hE3⟩ : ∃ E V, bpowE b p = E ∧ bpowV b p = V := ⟨_, _, rfl, rfl⟩
  have C0 := Lib.hid (fun W' h => show Calls Tryd.prog 31 #[.slice A0 n0 c0, .int .i64 z] W' (NatRPost E1 V1 W') from by rw [← hE1.1, ← hE1.2]; exact nshl_all A0 n0 c0 l0 z W' h (by omega) z0 z1)
  have C1 := Lib.hid (fun W' h => show Calls Tryd.prog 32 #[.slice A0 n0 c0, .int .i64 z] W' (NatRPost E1 V1 W') from by rw [← hE1.1, ← hE1.2]; exact rshl_all A0 n0 c0 l0 z W' h (by omega) z0 z1)
  have C2 := Lib.hid (fun W' h => show Calls Tryd.prog 33 #[.slice A0 n0 c0, .int .i64 z] W' (NatBRPost E2 V2 B2 W') from by rw [← hE2.1, ← hE2.2.1, ← hE2.2.2]; exact nshr_any A0 n0 c0 l0 z W' h (by omega) z0 z1)
  have C3 := Lib.hid (fun W' h => show Calls Tryd.prog 34 #[.slice A0 n0 c0, .int .i64 z] W' (NatBQPost E2 V2 B2 W') from by rw [← hE2.1, ← hE2.2.1, ← hE2.2.2]; exact rshr_all A0 n0 c0 l0 z W' h (by omega) z0 z1)
  have C4 := Lib.hid (fun W' => show Calls Tryd.prog 35 #[.int .i64 b, .int .i64 p] W' (NatRPost E3 V3 W') from by rw [← hE3.1, ← hE3.2]; exact npow_any b p b0 b1 p0 p1 W')
  have C5 := Lib.hid (fun W' => show Calls Tryd.prog 36 #[.int .i64 b, .int .i64 p] W' (NatRPost E3 V3 W') from by rw [← hE3.1, ← hE3.2]; exact rpow_any b p b0 b1 p0 p1 W')
  have P0 := Lib.hid h0
  have t1 : (E1 == E1) = true := beq_self_eq_true E1
  have t2 : (E2 == E2) = true := beq_self_eq_true E2
  have t3 : (E3 == E3) = true := beq_self_eq_true E3
  have t4 : (B2 == B2) = true := beq_self_eq_true B2
  clear hE1 hE2 hE3 h0 HP0
  go_enter Tryd.func5, Tryd.ntmps5
  have HB := Lib.hid (Below.refl W.heap.size W)
  go_wp2_with fail
  refine (shown_any _).mono ?_
  rintro e x1 ⟨rfl, hb⟩
  replace HB := Lib.hid (via1' (w := W) (X := _) HB.out hb)
  replace P0 := Lib.hid (P0.out.on hb)
  clear hb
  go_wp2_with fail
  refine (C0.out _ P0.out).mono ?_
  rintro e x2 ⟨Ax, nx, cx, lx, rfl, Px, h1, h2, _, hb⟩
  replace HB := Lib.hid (via1' (w := W) (X := _) HB.out hb)
  replace P0 := Lib.hid (P0.out.on hb)
  clear hb
  replace Px := Lib.hid Px
  have Nx := Lib.hid (And.intro h1 h2)
  clear h1 h2
  go_wp2_with fail
  refine (C1.out _ P0.out).mono ?_
  rintro e x3 ⟨Ay, ny, cy, ly, rfl, Py, h1, h2, _, hb⟩
  replace HB := Lib.hid (via1' (w := W) (X := _) HB.out hb)
  replace P0 := Lib.hid (P0.out.on hb)
  replace Px := Lib.hid (Px.out.on hb)
  clear hb
  replace Py := Lib.hid Py
  have Ny := Lib.hid (And.intro h1 h2)
  clear h1 h2
  go_wp2_with fail
  refine (C2.out _ P0.out).mono ?_
  rintro e x4 ⟨Az, nz, cz, lz, rfl, Pz, h1, h2, _, hb⟩
  replace HB := Lib.hid (via1' (w := W) (X := _) HB.out hb)
  replace P0 := Lib.hid (P0.out.on hb)
  replace Px := Lib.hid (Px.out.on hb)
  replace Py := Lib.hid (Py.out.on hb)
  clear hb
  replace Pz := Lib.hid Pz
  have Nz := Lib.hid (And.intro h1 h2)
  clear h1 h2
  go_wp2_with fail
  refine (C3.out _ P0.out).mono ?_
  rintro e x5 ⟨Aw, nw, cw, lw, rfl, Pw, h1, h2, hb⟩
  replace HB := Lib.hid (via1' (w := W) (X := _) HB.out hb)
  replace P0 := Lib.hid (P0.out.on hb)
  replace Px := Lib.hid (Px.out.on hb)
  replace Py := Lib.hid (Py.out.on hb)
  replace Pz := Lib.hid (Pz.out.on hb)
  clear hb
  replace Pw := Lib.hid Pw
  have Nw := Lib.hid (And.intro h1 h2)
  clear h1 h2
  go_wp2_with fail
  refine (C4.out _).mono ?_
  rintro e x6 ⟨Ap, np, cp, lp, rfl, Pp, h1, h2, _, hb⟩
  replace HB := Lib.hid (via1' (w := W) (X := _) HB.out hb)
  replace P0 := Lib.hid (P0.out.on hb)
  replace Px := Lib.hid (Px.out.on hb)
  replace Py := Lib.hid (Py.out.on hb)
  replace Pz := Lib.hid (Pz.out.on hb)
  replace Pw := Lib.hid (Pw.out.on hb)
  clear hb
  replace Pp := Lib.hid Pp
  have Np := Lib.hid (And.intro h1 h2)
  clear h1 h2
  go_wp2_with fail
  refine (C5.out _).mono ?_
  rintro e x7 ⟨Aq, nq, cq, lq, rfl, Pq, h1, h2, _, hb⟩
  replace HB := Lib.hid (via1' (w := W) (X := _) HB.out hb)
  replace P0 := Lib.hid (P0.out.on hb)
  replace Px := Lib.hid (Px.out.on hb)
  replace Py := Lib.hid (Py.out.on hb)
  replace Pz := Lib.hid (Pz.out.on hb)
  replace Pw := Lib.hid (Pw.out.on hb)
  replace Pp := Lib.hid (Pp.out.on hb)
  clear hb
  replace Pq := Lib.hid Pq
  have Nq := Lib.hid (And.intro h1 h2)
  clear h1 h2
  have Qy := Lib.hid (show Sl _ _ Ay ny cy lx by have := Py.out; rw [show ly = lx from norm_unique Py.out.lim Px.out.lim Ny.out.1 Nx.out.1 (Ny.out.2.trans Nx.out.2.symm)] at this; exact this)
  go_wp2_with fail
  refine (same_all _ _ _ _ _ _ lx _ Px.out Qy.out).mono ?_
  rintro e x8 ⟨rfl, hb⟩
  replace HB := Lib.hid (via1' (w := W) (X := _) HB.out hb)
  replace P0 := Lib.hid (P0.out.on hb)
  replace Pz := Lib.hid (Pz.out.on hb)
  replace Pw := Lib.hid (Pw.out.on hb)
  replace Pp := Lib.hid (Pp.out.on hb)
  replace Pq := Lib.hid (Pq.out.on hb)
  clear hb
  clear Px Py Qy Nx Ny
  have Qw := Lib.hid (show Sl _ _ Aw nw cw lz by have := Pw.out; rw [show lw = lz from norm_unique Pw.out.lim Pz.out.lim Nw.out.1 Nz.out.1 (Nw.out.2.trans Nz.out.2.symm)] at this; exact this)
  go_wp2_with fail
  refine (same_all _ _ _ _ _ _ lz _ Pz.out Qw.out).mono ?_
  rintro e x9 ⟨rfl, hb⟩
  replace HB := Lib.hid (via1' (w := W) (X := _) HB.out hb)
  replace P0 := Lib.hid (P0.out.on hb)
  replace Pp := Lib.hid (Pp.out.on hb)
  replace Pq := Lib.hid (Pq.out.on hb)
  clear hb
  clear Pz Pw Qw Nz Nw
  have Qq := Lib.hid (show Sl _ _ Aq nq cq lp by have := Pq.out; rw [show lq = lp from norm_unique Pq.out.lim Pp.out.lim Nq.out.1 Np.out.1 (Nq.out.2.trans Np.out.2.symm)] at this; exact this)
  go_wp2_with fail
  refine (same_all _ _ _ _ _ _ lp _ Pp.out Qq.out).mono ?_
  rintro e x10 ⟨rfl, hb⟩
  replace HB := Lib.hid (via1' (w := W) (X := _) HB.out hb)
  replace P0 := Lib.hid (P0.out.on hb)
  clear hb
  clear Pp Pq Qq Np Nq
  go_wp2
  go_ret
  exact ⟨by simp, HB.out⟩
end Go.Proofs.YtmjidpkddiinaaaDoor
