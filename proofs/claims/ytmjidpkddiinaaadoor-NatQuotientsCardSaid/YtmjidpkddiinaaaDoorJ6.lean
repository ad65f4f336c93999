/-
  What NatQuotients answers: true.
-/
import Derived.Test.YtmjidpkddiinaaaDoorH2
import Derived.Test.YtmjidpkddiinaaaDoorX7
namespace Go.Proofs.YtmjidpkddiinaaaDoor
open Go.RowKit Go.Shelf

set_option maxRecDepth 100000 in
set_option maxHeartbeats 8000000 in
theorem quotients_any (A0 A1 : Option Addr) (n0 n1 c0 c1 : Nat) (l0 l1 : List Int) (W : World) (h0 : Sl W W.heap.size A0 n0 c0 l0) (h1 : Sl W W.heap.size A1 n1 c1 l1) :
    Calls Tryd.prog 8 #[.slice A0 n0 c0, .slice A1 n1 c1] W fun e W' => e = .returned (.bool true) ∧ Below W.heap.size W W' := by
  have HP0 := Lib.hid h0
  have HP1 := Lib.hid h1
  by_cases lg0 : 256 < n0
  · have m0 : (256 : Int) < (n0 : Int) := by omega
    clear h0 h1
    go_enter Tryd.func8, Tryd.ntmps8
    go_wp2_with fail
    refine (shown_any _).mono ?_
    rintro e x0 ⟨rfl, hb⟩
    go_wp2
    go_ret
    exact ⟨rfl, hb⟩
  by_cases lg1 : 256 < n1
  · have m0 : ¬ (256 : Int) < (n0 : Int) := by omega
    have m1 : (256 : Int) < (n1 : Int) := by omega
    clear h0 h1
    go_enter Tryd.func8, Tryd.ntmps8
    go_wp2_with fail
    refine (shown_any _).mono ?_
    rintro e x0 ⟨rfl, hb⟩
    go_wp2
    go_ret
    exact ⟨rfl, hb⟩
  have m0 : ¬ (256 : Int) < (n0 : Int) := by omega
  have m1 : ¬ (256 : Int) < (n1 : Int) := by omega
  obtain ⟨X, hX0⟩ : ∃ X, natV l0 = X := ⟨_, rfl⟩
  obtain ⟨Y, hX1⟩ : ∃ X, natV l1 = X := ⟨_, rfl⟩
  have x0 : 0 ≤ X := by rw [← hX0]; exact natV_nonneg h0.lim
  have y0 : 0 ≤ Y := by rw [← hX1]; exact natV_nonneg h1.lim
  have x1 : X < pw 8192 := by rw [← hX0]; exact sl_bound (k := 256) h0 (by omega)
  have y1 : Y < pw 8192 := by rw [← hX1]; exact sl_bound (k := 256) h1 (by omega)
  have P0 := Lib.hid h0; have P1 := Lib.hid h1
  by_cases hz : Y = 0
  · subst hz
    have CL := Lib.hid (fun W' h => show Calls Tryd.prog 19 #[.slice A1 n1 c1] W' (fun e w' => e = .returned (.int .i64 0) ∧ Below W'.heap.size W' w') from by rw [← lenV_zero, ← hX1]; exact nlen_any A1 n1 c1 l1 W' h (by omega))
    have CD := Lib.hid (fun W' h h' => ndiv_z A0 A1 n0 n1 c0 c1 l0 l1 W' h h' (by omega) (by omega) (by rw [hX0]; exact x1) hX1)
    clear h0 h1 HP0 HP1 hX0 hX1 x0 x1 y0 y1
    go_enter Tryd.func8, Tryd.ntmps8
    have HB := Lib.hid (Below.refl W.heap.size W)
    go_wp2_with fail
    refine (shown_any _).mono ?_
    rintro e x1 ⟨rfl, hb⟩
    replace HB := Lib.hid (via1' (w := W) (X := _) HB.out hb)
    replace P0 := Lib.hid (P0.out.on hb)
    replace P1 := Lib.hid (P1.out.on hb)
    clear hb
    go_wp2_with fail
    refine (CD.out _ P0.out P1.out).mono ?_
    rintro e x2 ⟨Aq, nq, cq, lq, Ar, nr, cr, lr, rfl, ⟨Pq, h1, h2, _⟩, ⟨Pr, g1, g2, _⟩, hb⟩
    replace HB := Lib.hid (via1' (w := W) (X := _) HB.out hb)
    replace P0 := Lib.hid (P0.out.on hb)
    replace P1 := Lib.hid (P1.out.on hb)
    clear hb
    replace Pq := Lib.hid Pq
    have Nq := Lib.hid (And.intro h1 h2)
    clear h1 h2
    replace Pr := Lib.hid Pr
    have Nr := Lib.hid (And.intro g1 g2)
    clear g1 g2
    obtain rfl : nq = 0 := sl_nil_of Pq.out Nq.out.1 Nq.out.2
    obtain rfl : nr = 0 := sl_nil_of Pr.out Nr.out.1 Nr.out.2
    go_wp2_with fail
    refine (CL.out _ P1.out).mono ?_
    rintro e x3 ⟨rfl, hb⟩
    replace HB := Lib.hid (via1' (w := W) (X := _) HB.out hb)
    replace P0 := Lib.hid (P0.out.on hb)
    replace P1 := Lib.hid (P1.out.on hb)
    replace Pq := Lib.hid (Pq.out.on hb)
    replace Pr := Lib.hid (Pr.out.on hb)
    clear hb
    go_wp2
    go_ret
    exact ⟨by simp, HB.out⟩
  have yp : 0 < Y := by omega
  have q0 : 0 ≤ X / Y := Int.ediv_nonneg x0 y0
  have r0 : 0 ≤ X % Y := Int.emod_nonneg X hz
  have r1 : X % Y < Y := Int.emod_lt_of_pos X yp
  have ed : X / Y * Y + X % Y = X := by rw [Int.mul_comm]; exact Int.mul_ediv_add_emod X Y
  have q1 : X / Y ≤ X / Y * Y := by have := Int.mul_le_mul_of_nonneg_left (show 1 ≤ Y by omega) q0; omega
  have Tq := Lib.hid (show X / Y < pw 8192 from by omega)
  have Tr := Lib.hid (show X % Y < pw 8192 from by omega)
  have Tp := Lib.hid (show X / Y * Y < pw 8192 from by omega)
  have Ts := Lib.hid (show X / Y * Y + X % Y < pw 8192 from by omega)
  have Tt := Lib.hid (show X < pw 8192 from by omega)
  have T1 := Lib.hid (show Y < pw 8192 from by omega)
  have Ed := Lib.hid ed
  obtain ⟨L, hL⟩ : ∃ L, lenV Y = L := ⟨_, rfl⟩
  have Lp : 0 < L := by rw [← hL]; exact lenV_pos y0 hz
  have Ln : ¬ L = 0 := by omega
  have CL := Lib.hid (fun W' h => show Calls Tryd.prog 19 #[.slice A1 n1 c1] W' (fun e w' => e = .returned (.int .i64 L) ∧ Below W'.heap.size W' w') from by rw [← hL, ← hX1]; exact nlen_any A1 n1 c1 l1 W' h (by omega))
  have cm : cmpI (X % Y) Y = -1 := by unfold cmpI; rw [if_pos r1]
  have CC := Lib.hid (fun (A : Option Addr) (n c : Nat) (l : List Int) W' h h' (hn : n ≤ 30000) (hv : natV l = X % Y) => show Calls Tryd.prog 21 #[.slice A n c, .slice A1 n1 c1] W' (fun e w' => e = .returned (.int .i64 (-1)) ∧ Below W'.heap.size W' w') from by rw [← cm, ← hv, ← hX1]; exact ncmp_any A A1 n n1 c c1 l l1 W' h h' hn (by omega))
  replace hX0 := Lib.hid hX0; replace hX1 := Lib.hid hX1
  replace hz := Lib.hid hz
  clear h0 h1 HP0 HP1 x0 x1 y0 y1 yp q0 r0 r1 ed q1 cm hL
  go_enter Tryd.func8, Tryd.ntmps8
  have HB := Lib.hid (Below.refl W.heap.size W)
  go_wp2_with fail
  refine (shown_any _).mono ?_
  rintro e x1 ⟨rfl, hb⟩
  replace HB := Lib.hid (via1' (w := W) (X := _) HB.out hb)
  replace P0 := Lib.hid (P0.out.on hb)
  replace P1 := Lib.hid (P1.out.on hb)
  clear hb
  go_wp2_with fail
  refine (ndiv_sm A0 A1 n0 n1 c0 c1 l0 l1 _ P0.out P1.out (by omega) (by omega) (hX0.out) (hX1.out) Tt.out T1.out hz.out).mono ?_
  rintro e x2 ⟨Aq, nq, cq, lq, Ar, nr, cr, lr, rfl, ⟨Pq, h1, h2, _⟩, ⟨Pr, g1, g2, _⟩, hb⟩
  replace HB := Lib.hid (via1' (w := W) (X := _) HB.out hb)
  replace P0 := Lib.hid (P0.out.on hb)
  replace P1 := Lib.hid (P1.out.on hb)
  clear hb
  replace Pq := Lib.hid Pq
  have Nq := Lib.hid (And.intro h1 h2)
  clear h1 h2
  replace Pr := Lib.hid Pr
  have Nr := Lib.hid (And.intro g1 g2)
  clear g1 g2
  go_wp2_with fail
  refine (CL.out _ P1.out).mono ?_
  rintro e x3 ⟨rfl, hb⟩
  replace HB := Lib.hid (via1' (w := W) (X := _) HB.out hb)
  replace P0 := Lib.hid (P0.out.on hb)
  replace P1 := Lib.hid (P1.out.on hb)
  replace Pq := Lib.hid (Pq.out.on hb)
  replace Pr := Lib.hid (Pr.out.on hb)
  clear hb
  go_wp2_with fail
  refine (nmul_sm Aq A1 nq n1 cq c1 lq l1 _ Pq.out P1.out (Nat.le_trans (nat_len Pq.out Nq.out.1 Nq.out.2 (Tq.out)) (by decide)) (by omega) (Nq.out.2) (hX1.out) Tq.out T1.out Tp.out).mono ?_
  rintro e x4 ⟨Ap, np, cp, lp, rfl, Pp, h1, h2, _, hb⟩
  replace HB := Lib.hid (via1' (w := W) (X := _) HB.out hb)
  replace P0 := Lib.hid (P0.out.on hb)
  replace P1 := Lib.hid (P1.out.on hb)
  replace Pq := Lib.hid (Pq.out.on hb)
  replace Pr := Lib.hid (Pr.out.on hb)
  clear hb
  replace Pp := Lib.hid Pp
  have Np := Lib.hid (And.intro h1 h2)
  clear h1 h2
  go_wp2_with fail
  refine (nadd_sm Ap Ar np nr cp cr lp lr _ Pp.out Pr.out (Nat.le_trans (nat_len Pp.out Np.out.1 Np.out.2 (Tp.out)) (by decide)) (Nat.le_trans (nat_len Pr.out Nr.out.1 Nr.out.2 (Tr.out)) (by decide)) (Np.out.2) (Nr.out.2) Ts.out).mono ?_
  rintro e x5 ⟨As, ns, cs, ls, rfl, Ps, h1, h2, _, hb⟩
  replace HB := Lib.hid (via1' (w := W) (X := _) HB.out hb)
  replace P0 := Lib.hid (P0.out.on hb)
  replace P1 := Lib.hid (P1.out.on hb)
  replace Pq := Lib.hid (Pq.out.on hb)
  replace Pr := Lib.hid (Pr.out.on hb)
  replace Pp := Lib.hid (Pp.out.on hb)
  clear hb
  replace Ps := Lib.hid Ps
  have Ns := Lib.hid (And.intro h1 h2)
  clear h1 h2
  go_wp2_with fail
  refine (ntrim_any A0 n0 c0 l0 _ P0.out (by omega)).mono ?_
  rintro e x6 ⟨At, nt, ct, lt, rfl, Pt, h1, h2, _, hb⟩
  replace HB := Lib.hid (via1' (w := W) (X := _) HB.out hb)
  replace P0 := Lib.hid (P0.out.on hb)
  replace P1 := Lib.hid (P1.out.on hb)
  replace Pq := Lib.hid (Pq.out.on hb)
  replace Pr := Lib.hid (Pr.out.on hb)
  replace Pp := Lib.hid (Pp.out.on hb)
  replace Ps := Lib.hid (Ps.out.on hb)
  clear hb
  replace Pt := Lib.hid Pt
  have Nt := Lib.hid (And.intro h1 h2)
  clear h1 h2
  replace Nt := Lib.hid (And.intro Nt.out.1 (Nt.out.2.trans hX0.out))
  go_wp2_with fail
  refine (equal_all As At ns nt cs ct ls lt _ Ps.out Pt.out Ns.out.1 Nt.out.1 (Ns.out.2.trans (Eq.trans (Ed.out) Nt.out.2.symm)) (Nat.le_trans (nat_len Ps.out Ns.out.1 Ns.out.2 (Ts.out)) (by decide))).mono ?_
  rintro e x7 ⟨rfl, hb⟩
  replace HB := Lib.hid (via1' (w := W) (X := _) HB.out hb)
  replace P0 := Lib.hid (P0.out.on hb)
  replace P1 := Lib.hid (P1.out.on hb)
  replace Pq := Lib.hid (Pq.out.on hb)
  replace Pr := Lib.hid (Pr.out.on hb)
  replace Pp := Lib.hid (Pp.out.on hb)
  replace Ps := Lib.hid (Ps.out.on hb)
  replace Pt := Lib.hid (Pt.out.on hb)
  clear hb
  go_wp2_with fail
  refine (CC.out Ar nr cr lr _ Pr.out P1.out (Nat.le_trans (nat_len Pr.out Nr.out.1 Nr.out.2 (Tr.out)) (by decide)) Nr.out.2).mono ?_
  rintro e x8 ⟨rfl, hb⟩
  replace HB := Lib.hid (via1' (w := W) (X := _) HB.out hb)
  replace P0 := Lib.hid (P0.out.on hb)
  replace P1 := Lib.hid (P1.out.on hb)
  replace Pq := Lib.hid (Pq.out.on hb)
  replace Pr := Lib.hid (Pr.out.on hb)
  replace Pp := Lib.hid (Pp.out.on hb)
  replace Ps := Lib.hid (Ps.out.on hb)
  replace Pt := Lib.hid (Pt.out.on hb)
  clear hb
  go_wp2
  go_ret
  exact ⟨by simp, HB.out⟩
end Go.Proofs.YtmjidpkddiinaaaDoor
