/-
  What NatDoubles answers: true.
-/
import Derived.Test.YtmjidpkddiinaaaDoorH2
import Derived.Test.YtmjidpkddiinaaaDoorX7
namespace Go.Proofs.YtmjidpkddiinaaaDoor
open Go.RowKit Go.Shelf

set_option maxRecDepth 100000 in
set_option maxHeartbeats 8000000 in
theorem doubles_any (A0 : Option Addr) (n0 c0 : Nat) (l0 : List Int) (z : Int) (W : World) (h0 : Sl W W.heap.size A0 n0 c0 l0) (z0 : -9223372036854775808 ≤ z) (z1 : z ≤ 9223372036854775807) :
    Calls Tryd.prog 9 #[.slice A0 n0 c0, .int .i64 z] W fun e W' => e = .returned (.bool true) ∧ Below W.heap.size W W' := by
  have HP0 := Lib.hid h0
  by_cases lg0 : 200 < n0
  · have m0 : (200 : Int) < (n0 : Int) := by omega
    clear h0
    go_enter Tryd.func9, Tryd.ntmps9
    go_wp2_with fail
    refine (shown_any _).mono ?_
    rintro e x0 ⟨rfl, hb⟩
    go_wp2
    go_ret
    exact ⟨rfl, hb⟩
  have m0 : ¬ (200 : Int) < (n0 : Int) := by omega
  by_cases zn : z < 0
  · have zt := zn
    clear h0
    go_enter Tryd.func9, Tryd.ntmps9
    go_wp2_with fail
    refine (shown_any _).mono ?_
    rintro e x0 ⟨rfl, hb⟩
    go_wp2
    go_ret
    exact ⟨rfl, hb⟩
  by_cases zx : 1700 < z
  · have zt := zn
    clear h0
    go_enter Tryd.func9, Tryd.ntmps9
    go_wp2_with fail
    refine (shown_any _).mono ?_
    rintro e x0 ⟨rfl, hb⟩
    go_wp2
    go_ret
    exact ⟨rfl, hb⟩
  have zz : 0 ≤ z := by omega
  have zm : z ≤ 1700 := by omega
  obtain ⟨X, hX0⟩ : ∃ X, natV l0 = X := ⟨_, rfl⟩
  have x0 : 0 ≤ X := by rw [← hX0]; exact natV_nonneg h0.lim
  have x1 : X < pw 6400 := by rw [← hX0]; exact sl_bound (k := 200) h0 (by omega)
  have le0 : pw 6400 ≤ pw 8192 := pw_mono (by decide) (by decide)
  have le1 : pw z < pw 8192 := Int.lt_of_le_of_lt (pw_mono (b := 8191) zz (by omega)) (by have e1 : pw 8192 = 2 * pw 8191 := pw_succ 8191 (by decide); have e2 := pw_pos 8191; rw [e1]; omega)
  have pp := pw_pos z
  have xs : X * pw z < pw 8192 := by
    have e1 : X * pw z < pw 6400 * pw z := Int.mul_lt_mul_of_pos_right x1 pp
    rw [← pw_add 6400 z (by decide) zz] at e1
    have e2 := pw_mono (a := 6400 + z) (b := 8192) (by omega) (by omega)
    omega
  have q0 : 0 ≤ X / pw z := Int.ediv_nonneg x0 (by omega)
  have q1 : X / pw z ≤ X := Int.ediv_le_self _ x0
  have r0 : 0 ≤ X % pw z := Int.emod_nonneg X (by omega)
  have r1 : X % pw z < pw z := Int.emod_lt_of_pos X pp
  have P0 := Lib.hid h0
  have Tp := Lib.hid (fun _ : Unit => show pw z < pw 8192 from by omega)
  have T0 := Lib.hid (show X < pw 8192 from by omega)
  have Tx := Lib.hid (show X * pw z < pw 8192 from by omega)
  have Tz := Lib.hid (show X / pw z < pw 8192 from by omega)
  have Tr := Lib.hid (show X % pw z < pw 8192 from by omega)
  have Ty := Tx
  have Tq := Tz
  have Wz := Lib.hid (show pw z ≠ 0 by omega)
  obtain ⟨BL, hBL⟩ : ∃ B, decide (X % pw z ≠ 0) = B := ⟨_, rfl⟩
  obtain ⟨LA, hLA⟩ : ∃ L, lenV X = L := ⟨_, rfl⟩
  obtain ⟨LX, hLX⟩ : ∃ L, lenV (X * pw z) = L := ⟨_, rfl⟩
  have C0 := Lib.hid (fun W' => npow2_sm z W' zz (by omega))
  have C1 := Lib.hid (fun W' h => nshl_sm A0 n0 c0 l0 z W' h (by omega) hX0 zz (by omega) xs)
  have C2 := Lib.hid (fun W' h => show Calls Tryd.prog 33 #[.slice A0 n0 c0, .int .i64 z] W' (NatBRPost 0 (X / pw z) BL W') from by rw [← hBL]; exact nshr_sm A0 n0 c0 l0 z W' h (by omega) hX0 zz (by omega) (by omega))
  have C3 := Lib.hid (fun W' h => show Calls Tryd.prog 19 #[.slice A0 n0 c0] W' (fun e w' => e = .returned (.int .i64 LA) ∧ Below W'.heap.size W' w') from by rw [← hLA, ← hX0]; exact nlen_any A0 n0 c0 l0 W' h (by omega))
  have C4 := Lib.hid (fun (A : Option Addr) (n c : Nat) (l : List Int) W' h (hn : n ≤ 30000) (hv : natV l = X * pw z) => show Calls Tryd.prog 19 #[.slice A n c] W' (fun e w' => e = .returned (.int .i64 LX) ∧ Below W'.heap.size W' w') from by rw [← hLX, ← hv]; exact nlen_any A n c l W' h hn)
  have XL := Lib.hid (show (X = 0 → LA = 0 ∧ LX = 0) ∧ (X ≠ 0 → 0 < LA ∧ LA ≤ 6400 ∧ LX = LA + z) from ⟨fun e => by subst e; rw [← hLA, ← hLX, Int.zero_mul]; exact ⟨rfl, rfl⟩, fun e => by rw [← hLA, ← hLX]; exact ⟨lenV_pos x0 e, lenV_le (k := 6400) x0 x1, lenV_mul x0 e zz⟩⟩)
  have RB := Lib.hid (show (X % pw z = 0 → BL = false) ∧ (X % pw z ≠ 0 → BL = true) from ⟨fun e => by rw [← hBL, e]; rfl, fun e => by rw [← hBL]; simpa using e⟩)
  replace hX0 := Lib.hid hX0
  have ZZ := Lib.hid (And.intro zz zm)
  clear h0 HP0 x0 x1 le0 le1 pp xs q0 q1 r0 r1 hBL hLA hLX zz zm
  go_enter Tryd.func9, Tryd.ntmps9
  have HB := Lib.hid (Below.refl W.heap.size W)
  go_wp2_with fail
  refine (shown_any _).mono ?_
  rintro e x1 ⟨rfl, hb⟩
  replace HB := Lib.hid (via1' (w := W) (X := _) HB.out hb)
  replace P0 := Lib.hid (P0.out.on hb)
  clear hb
  go_wp2_with fail
  refine (C0.out _).mono ?_
  rintro e x2 ⟨Ap, np, cp, lp, rfl, Pp, h1, h2, _, hb⟩
  replace HB := Lib.hid (via1' (w := W) (X := _) HB.out hb)
  replace P0 := Lib.hid (P0.out.on hb)
  clear hb
  replace Pp := Lib.hid Pp
  have Np := Lib.hid (And.intro h1 h2)
  clear h1 h2
  go_wp2_with fail
  refine (C1.out _ P0.out).mono ?_
  rintro e x3 ⟨Ax, nx, cx, lx, rfl, Px, h1, h2, _, hb⟩
  replace HB := Lib.hid (via1' (w := W) (X := _) HB.out hb)
  replace P0 := Lib.hid (P0.out.on hb)
  replace Pp := Lib.hid (Pp.out.on hb)
  clear hb
  replace Px := Lib.hid Px
  have Nx := Lib.hid (And.intro h1 h2)
  clear h1 h2
  go_wp2_with fail
  refine (nmul_sm A0 Ap n0 np c0 cp l0 lp _ P0.out Pp.out (by omega) (Nat.le_trans (nat_len Pp.out Np.out.1 Np.out.2 ((Tp.out ()))) (by decide)) (hX0.out) (Np.out.2) T0.out (Tp.out ()) Tx.out).mono ?_
  rintro e x4 ⟨Ay, ny, cy, ly, rfl, Py, h1, h2, _, hb⟩
  replace HB := Lib.hid (via1' (w := W) (X := _) HB.out hb)
  replace P0 := Lib.hid (P0.out.on hb)
  replace Pp := Lib.hid (Pp.out.on hb)
  replace Px := Lib.hid (Px.out.on hb)
  clear hb
  replace Py := Lib.hid Py
  have Ny := Lib.hid (And.intro h1 h2)
  clear h1 h2
  go_wp2_with fail
  refine (C2.out _ P0.out).mono ?_
  rintro e x5 ⟨Az, nz, cz, lz, rfl, Pz, h1, h2, _, hb⟩
  replace HB := Lib.hid (via1' (w := W) (X := _) HB.out hb)
  replace P0 := Lib.hid (P0.out.on hb)
  replace Pp := Lib.hid (Pp.out.on hb)
  replace Px := Lib.hid (Px.out.on hb)
  replace Py := Lib.hid (Py.out.on hb)
  clear hb
  replace Pz := Lib.hid Pz
  have Nz := Lib.hid (And.intro h1 h2)
  clear h1 h2
  go_wp2_with fail
  refine (ndiv_sm A0 Ap n0 np c0 cp l0 lp _ P0.out Pp.out (by omega) (Nat.le_trans (nat_len Pp.out Np.out.1 Np.out.2 ((Tp.out ()))) (by decide)) (hX0.out) (Np.out.2) T0.out (Tp.out ()) Wz.out).mono ?_
  rintro e x6 ⟨Aq, nq, cq, lq, Ar, nr, cr, lr, rfl, ⟨Pq, h1, h2, _⟩, ⟨Pr, g1, g2, _⟩, hb⟩
  replace HB := Lib.hid (via1' (w := W) (X := _) HB.out hb)
  replace P0 := Lib.hid (P0.out.on hb)
  replace Pp := Lib.hid (Pp.out.on hb)
  replace Px := Lib.hid (Px.out.on hb)
  replace Py := Lib.hid (Py.out.on hb)
  replace Pz := Lib.hid (Pz.out.on hb)
  clear hb
  replace Pq := Lib.hid Pq
  have Nq := Lib.hid (And.intro h1 h2)
  clear h1 h2
  replace Pr := Lib.hid Pr
  have Nr := Lib.hid (And.intro g1 g2)
  clear g1 g2
  go_wp2_with fail
  refine (C3.out _ P0.out).mono ?_
  rintro e x7 ⟨rfl, hb⟩
  replace HB := Lib.hid (via1' (w := W) (X := _) HB.out hb)
  replace P0 := Lib.hid (P0.out.on hb)
  replace Pp := Lib.hid (Pp.out.on hb)
  replace Px := Lib.hid (Px.out.on hb)
  replace Py := Lib.hid (Py.out.on hb)
  replace Pz := Lib.hid (Pz.out.on hb)
  replace Pq := Lib.hid (Pq.out.on hb)
  replace Pr := Lib.hid (Pr.out.on hb)
  clear hb
  by_cases xz : X = 0
  · obtain ⟨rfl, rfl⟩ := XL.out.1 xz
    by_cases hr : X % pw z = 0
    · obtain rfl := RB.out.1 hr
      obtain rfl : nr = 0 := sl_nil_of Pr.out Nr.out.1 (by rw [Nr.out.2]; exact hr)
      replace hr := Lib.hid hr
      replace xz := Lib.hid xz
      go_wp2_with fail
      refine (equal_all Ax Ay nx ny cx cy lx ly _ Px.out Py.out Nx.out.1 Ny.out.1 (Nx.out.2.trans (Eq.trans (rfl) Ny.out.2.symm)) (Nat.le_trans (nat_len Px.out Nx.out.1 Nx.out.2 (Tx.out)) (by decide))).mono ?_
      rintro e x8 ⟨rfl, hb⟩
      replace HB := Lib.hid (via1' (w := W) (X := _) HB.out hb)
      replace P0 := Lib.hid (P0.out.on hb)
      replace Pp := Lib.hid (Pp.out.on hb)
      replace Px := Lib.hid (Px.out.on hb)
      replace Py := Lib.hid (Py.out.on hb)
      replace Pz := Lib.hid (Pz.out.on hb)
      replace Pq := Lib.hid (Pq.out.on hb)
      replace Pr := Lib.hid (Pr.out.on hb)
      clear hb
      go_wp2_with fail
      refine (equal_all Az Aq nz nq cz cq lz lq _ Pz.out Pq.out Nz.out.1 Nq.out.1 (Nz.out.2.trans (Eq.trans (rfl) Nq.out.2.symm)) (Nat.le_trans (nat_len Pz.out Nz.out.1 Nz.out.2 (Tz.out)) (by decide))).mono ?_
      rintro e x9 ⟨rfl, hb⟩
      replace HB := Lib.hid (via1' (w := W) (X := _) HB.out hb)
      replace P0 := Lib.hid (P0.out.on hb)
      replace Pp := Lib.hid (Pp.out.on hb)
      replace Px := Lib.hid (Px.out.on hb)
      replace Py := Lib.hid (Py.out.on hb)
      replace Pz := Lib.hid (Pz.out.on hb)
      replace Pq := Lib.hid (Pq.out.on hb)
      replace Pr := Lib.hid (Pr.out.on hb)
      clear hb
      go_wp2_with fail
      refine (C4.out Ax nx cx lx _ Px.out (Nat.le_trans (nat_len Px.out Nx.out.1 Nx.out.2 (Tx.out)) (by decide)) Nx.out.2).mono ?_
      rintro e x10 ⟨rfl, hb⟩
      replace HB := Lib.hid (via1' (w := W) (X := _) HB.out hb)
      replace P0 := Lib.hid (P0.out.on hb)
      replace Pp := Lib.hid (Pp.out.on hb)
      replace Px := Lib.hid (Px.out.on hb)
      replace Py := Lib.hid (Py.out.on hb)
      replace Pz := Lib.hid (Pz.out.on hb)
      replace Pq := Lib.hid (Pq.out.on hb)
      replace Pr := Lib.hid (Pr.out.on hb)
      clear hb
      go_wp2
      go_ret
      exact ⟨by simp, HB.out⟩
    · obtain rfl := RB.out.2 hr
      have nrp : (0 : Int) < (nr : Int) := by have := sl_pos_of Pr.out (by rw [Nr.out.2]; exact hr); omega
      replace hr := Lib.hid hr
      replace xz := Lib.hid xz
      go_wp2_with fail
      refine (equal_all Ax Ay nx ny cx cy lx ly _ Px.out Py.out Nx.out.1 Ny.out.1 (Nx.out.2.trans (Eq.trans (rfl) Ny.out.2.symm)) (Nat.le_trans (nat_len Px.out Nx.out.1 Nx.out.2 (Tx.out)) (by decide))).mono ?_
      rintro e x8 ⟨rfl, hb⟩
      replace HB := Lib.hid (via1' (w := W) (X := _) HB.out hb)
      replace P0 := Lib.hid (P0.out.on hb)
      replace Pp := Lib.hid (Pp.out.on hb)
      replace Px := Lib.hid (Px.out.on hb)
      replace Py := Lib.hid (Py.out.on hb)
      replace Pz := Lib.hid (Pz.out.on hb)
      replace Pq := Lib.hid (Pq.out.on hb)
      replace Pr := Lib.hid (Pr.out.on hb)
      clear hb
      go_wp2_with fail
      refine (equal_all Az Aq nz nq cz cq lz lq _ Pz.out Pq.out Nz.out.1 Nq.out.1 (Nz.out.2.trans (Eq.trans (rfl) Nq.out.2.symm)) (Nat.le_trans (nat_len Pz.out Nz.out.1 Nz.out.2 (Tz.out)) (by decide))).mono ?_
      rintro e x9 ⟨rfl, hb⟩
      replace HB := Lib.hid (via1' (w := W) (X := _) HB.out hb)
      replace P0 := Lib.hid (P0.out.on hb)
      replace Pp := Lib.hid (Pp.out.on hb)
      replace Px := Lib.hid (Px.out.on hb)
      replace Py := Lib.hid (Py.out.on hb)
      replace Pz := Lib.hid (Pz.out.on hb)
      replace Pq := Lib.hid (Pq.out.on hb)
      replace Pr := Lib.hid (Pr.out.on hb)
      clear hb
      go_wp2_with fail
      refine (C4.out Ax nx cx lx _ Px.out (Nat.le_trans (nat_len Px.out Nx.out.1 Nx.out.2 (Tx.out)) (by decide)) Nx.out.2).mono ?_
      rintro e x10 ⟨rfl, hb⟩
      replace HB := Lib.hid (via1' (w := W) (X := _) HB.out hb)
      replace P0 := Lib.hid (P0.out.on hb)
      replace Pp := Lib.hid (Pp.out.on hb)
      replace Px := Lib.hid (Px.out.on hb)
      replace Py := Lib.hid (Py.out.on hb)
      replace Pz := Lib.hid (Pz.out.on hb)
      replace Pq := Lib.hid (Pq.out.on hb)
      replace Pr := Lib.hid (Pr.out.on hb)
      clear hb
      go_wp2
      go_ret
      exact ⟨by simp, HB.out⟩
  · obtain ⟨lp, lm, rfl⟩ := XL.out.2 xz
    by_cases hr : X % pw z = 0
    · obtain rfl := RB.out.1 hr
      obtain rfl : nr = 0 := sl_nil_of Pr.out Nr.out.1 (by rw [Nr.out.2]; exact hr)
      replace hr := Lib.hid hr
      replace xz := Lib.hid xz
      go_wp2_with fail
      refine (equal_all Ax Ay nx ny cx cy lx ly _ Px.out Py.out Nx.out.1 Ny.out.1 (Nx.out.2.trans (Eq.trans (rfl) Ny.out.2.symm)) (Nat.le_trans (nat_len Px.out Nx.out.1 Nx.out.2 (Tx.out)) (by decide))).mono ?_
      rintro e x8 ⟨rfl, hb⟩
      replace HB := Lib.hid (via1' (w := W) (X := _) HB.out hb)
      replace P0 := Lib.hid (P0.out.on hb)
      replace Pp := Lib.hid (Pp.out.on hb)
      replace Px := Lib.hid (Px.out.on hb)
      replace Py := Lib.hid (Py.out.on hb)
      replace Pz := Lib.hid (Pz.out.on hb)
      replace Pq := Lib.hid (Pq.out.on hb)
      replace Pr := Lib.hid (Pr.out.on hb)
      clear hb
      go_wp2_with fail
      refine (equal_all Az Aq nz nq cz cq lz lq _ Pz.out Pq.out Nz.out.1 Nq.out.1 (Nz.out.2.trans (Eq.trans (rfl) Nq.out.2.symm)) (Nat.le_trans (nat_len Pz.out Nz.out.1 Nz.out.2 (Tz.out)) (by decide))).mono ?_
      rintro e x9 ⟨rfl, hb⟩
      replace HB := Lib.hid (via1' (w := W) (X := _) HB.out hb)
      replace P0 := Lib.hid (P0.out.on hb)
      replace Pp := Lib.hid (Pp.out.on hb)
      replace Px := Lib.hid (Px.out.on hb)
      replace Py := Lib.hid (Py.out.on hb)
      replace Pz := Lib.hid (Pz.out.on hb)
      replace Pq := Lib.hid (Pq.out.on hb)
      replace Pr := Lib.hid (Pr.out.on hb)
      clear hb
      go_wp2_with fail
      refine (C4.out Ax nx cx lx _ Px.out (Nat.le_trans (nat_len Px.out Nx.out.1 Nx.out.2 (Tx.out)) (by decide)) Nx.out.2).mono ?_
      rintro e x10 ⟨rfl, hb⟩
      replace HB := Lib.hid (via1' (w := W) (X := _) HB.out hb)
      replace P0 := Lib.hid (P0.out.on hb)
      replace Pp := Lib.hid (Pp.out.on hb)
      replace Px := Lib.hid (Px.out.on hb)
      replace Py := Lib.hid (Py.out.on hb)
      replace Pz := Lib.hid (Pz.out.on hb)
      replace Pq := Lib.hid (Pq.out.on hb)
      replace Pr := Lib.hid (Pr.out.on hb)
      clear hb
      go_wp2
      go_ret
      exact ⟨by simp, HB.out⟩
    · obtain rfl := RB.out.2 hr
      have nrp : (0 : Int) < (nr : Int) := by have := sl_pos_of Pr.out (by rw [Nr.out.2]; exact hr); omega
      replace hr := Lib.hid hr
      replace xz := Lib.hid xz
      go_wp2_with fail
      refine (equal_all Ax Ay nx ny cx cy lx ly _ Px.out Py.out Nx.out.1 Ny.out.1 (Nx.out.2.trans (Eq.trans (rfl) Ny.out.2.symm)) (Nat.le_trans (nat_len Px.out Nx.out.1 Nx.out.2 (Tx.out)) (by decide))).mono ?_
      rintro e x8 ⟨rfl, hb⟩
      replace HB := Lib.hid (via1' (w := W) (X := _) HB.out hb)
      replace P0 := Lib.hid (P0.out.on hb)
      replace Pp := Lib.hid (Pp.out.on hb)
      replace Px := Lib.hid (Px.out.on hb)
      replace Py := Lib.hid (Py.out.on hb)
      replace Pz := Lib.hid (Pz.out.on hb)
      replace Pq := Lib.hid (Pq.out.on hb)
      replace Pr := Lib.hid (Pr.out.on hb)
      clear hb
      go_wp2_with fail
      refine (equal_all Az Aq nz nq cz cq lz lq _ Pz.out Pq.out Nz.out.1 Nq.out.1 (Nz.out.2.trans (Eq.trans (rfl) Nq.out.2.symm)) (Nat.le_trans (nat_len Pz.out Nz.out.1 Nz.out.2 (Tz.out)) (by decide))).mono ?_
      rintro e x9 ⟨rfl, hb⟩
      replace HB := Lib.hid (via1' (w := W) (X := _) HB.out hb)
      replace P0 := Lib.hid (P0.out.on hb)
      replace Pp := Lib.hid (Pp.out.on hb)
      replace Px := Lib.hid (Px.out.on hb)
      replace Py := Lib.hid (Py.out.on hb)
      replace Pz := Lib.hid (Pz.out.on hb)
      replace Pq := Lib.hid (Pq.out.on hb)
      replace Pr := Lib.hid (Pr.out.on hb)
      clear hb
      go_wp2_with fail
      refine (C4.out Ax nx cx lx _ Px.out (Nat.le_trans (nat_len Px.out Nx.out.1 Nx.out.2 (Tx.out)) (by decide)) Nx.out.2).mono ?_
      rintro e x10 ⟨rfl, hb⟩
      replace HB := Lib.hid (via1' (w := W) (X := _) HB.out hb)
      replace P0 := Lib.hid (P0.out.on hb)
      replace Pp := Lib.hid (Pp.out.on hb)
      replace Px := Lib.hid (Px.out.on hb)
      replace Py := Lib.hid (Py.out.on hb)
      replace Pz := Lib.hid (Pz.out.on hb)
      replace Pq := Lib.hid (Pq.out.on hb)
      replace Pr := Lib.hid (Pr.out.on hb)
      clear hb
      go_wp2
      go_ret
      exact ⟨by simp, HB.out⟩
end Go.Proofs.YtmjidpkddiinaaaDoor
