/-
  What NatRings answers: true.
-/
import Derived.Test.YtmjidpkddiinaaaDoorH2
import Derived.Test.YtmjidpkddiinaaaDoorX7
namespace Go.Proofs.YtmjidpkddiinaaaDoor
open Go.RowKit Go.Shelf

set_option maxRecDepth 100000 in
set_option maxHeartbeats 8000000 in
theorem rings_any (A0 A1 A2 : Option Addr) (n0 n1 n2 c0 c1 c2 : Nat) (l0 l1 l2 : List Int) (W : World) (h0 : Sl W W.heap.size A0 n0 c0 l0) (h1 : Sl W W.heap.size A1 n1 c1 l1) (h2 : Sl W W.heap.size A2 n2 c2 l2) :
    Calls Tryd.prog 7 #[.slice A0 n0 c0, .slice A1 n1 c1, .slice A2 n2 c2] W fun e W' => e = .returned (.bool true) ∧ Below W.heap.size W W' := by
  have HP0 := Lib.hid h0
  have HP1 := Lib.hid h1
  have HP2 := Lib.hid h2
  by_cases lg0 : 60 < n0
  · have m0 : (60 : Int) < (n0 : Int) := by omega
    clear h0 h1 h2
    go_enter Tryd.func7, Tryd.ntmps7
    go_wp2_with fail
    refine (shown_any _).mono ?_
    rintro e x0 ⟨rfl, hb⟩
    go_wp2
    go_ret
    exact ⟨rfl, hb⟩
  by_cases lg1 : 60 < n1
  · have m0 : ¬ (60 : Int) < (n0 : Int) := by omega
    have m1 : (60 : Int) < (n1 : Int) := by omega
    clear h0 h1 h2
    go_enter Tryd.func7, Tryd.ntmps7
    go_wp2_with fail
    refine (shown_any _).mono ?_
    rintro e x0 ⟨rfl, hb⟩
    go_wp2
    go_ret
    exact ⟨rfl, hb⟩
  by_cases lg2 : 60 < n2
  · have m0 : ¬ (60 : Int) < (n0 : Int) := by omega
    have m1 : ¬ (60 : Int) < (n1 : Int) := by omega
    have m2 : (60 : Int) < (n2 : Int) := by omega
    clear h0 h1 h2
    go_enter Tryd.func7, Tryd.ntmps7
    go_wp2_with fail
    refine (shown_any _).mono ?_
    rintro e x0 ⟨rfl, hb⟩
    go_wp2
    go_ret
    exact ⟨rfl, hb⟩
  have m0 : ¬ (60 : Int) < (n0 : Int) := by omega
  have m1 : ¬ (60 : Int) < (n1 : Int) := by omega
  have m2 : ¬ (60 : Int) < (n2 : Int) := by omega
  obtain ⟨X, hX0⟩ : ∃ X, natV l0 = X := ⟨_, rfl⟩
  obtain ⟨Y, hX1⟩ : ∃ X, natV l1 = X := ⟨_, rfl⟩
  obtain ⟨Z, hX2⟩ : ∃ X, natV l2 = X := ⟨_, rfl⟩
  have x0 : 0 ≤ X := by rw [← hX0]; exact natV_nonneg h0.lim
  have y0 : 0 ≤ Y := by rw [← hX1]; exact natV_nonneg h1.lim
  have z0 : 0 ≤ Z := by rw [← hX2]; exact natV_nonneg h2.lim
  have x1 : X < pw 1920 := by rw [← hX0]; exact sl_bound (k := 60) h0 (by omega)
  have y1 : Y < pw 1920 := by rw [← hX1]; exact sl_bound (k := 60) h1 (by omega)
  have z1 : Z < pw 1920 := by rw [← hX2]; exact sl_bound (k := 60) h2 (by omega)
  have m2 : pw 1921 = 2 * pw 1920 := pw_succ 1920 (by decide)
  have m3 : pw 1922 = 2 * pw 1921 := pw_succ 1921 (by decide)
  have le0 : pw 1922 ≤ pw 8192 := pw_mono (by decide) (by decide)
  have le1 : pw 3842 ≤ pw 8192 := pw_mono (by decide) (by decide)
  have le2 : pw 5760 ≤ pw 8192 := pw_mono (by decide) (by decide)
  have xy : X * Y < pw 3840 := mul_bound x0 y0 x1 y1 (by decide) (by decide)
  have xz : X * Z < pw 3840 := mul_bound x0 z0 x1 z1 (by decide) (by decide)
  have yz : Y * Z < pw 3840 := mul_bound y0 z0 y1 z1 (by decide) (by decide)
  have xys : X * (Y + Z) < pw 3841 := mul_bound x0 (by omega) x1 (show Y + Z < pw 1921 by omega) (by decide) (by decide)
  have xy0 : 0 ≤ X * Y := Int.mul_nonneg x0 y0
  have yz0 : 0 ≤ Y * Z := Int.mul_nonneg y0 z0
  have xyz : X * Y * Z < pw 5760 := mul_bound xy0 z0 xy z1 (by decide) (by decide)
  have xyz2 : X * (Y * Z) < pw 5760 := by rw [← Int.mul_assoc]; exact xyz
  have dis : X * Y + X * Z = X * (Y + Z) := (Int.mul_add X Y Z).symm
  have m4 : pw 3841 = 2 * pw 3840 := pw_succ 3840 (by decide)
  have m5 : pw 3842 = 2 * pw 3841 := pw_succ 3841 (by decide)
  have p0 := pw_pos 1920
  have p1 := pw_pos 3840
  have Tab := Lib.hid (show X + Y < pw 8192 from by first | omega | (rw [Int.mul_comm]; omega))
  have Tba := Lib.hid (show Y + X < pw 8192 from by first | omega | (rw [Int.mul_comm]; omega))
  have Tbc := Lib.hid (show Y + Z < pw 8192 from by first | omega | (rw [Int.mul_comm]; omega))
  have Tlf := Lib.hid (show X + Y + Z < pw 8192 from by first | omega | (rw [Int.mul_comm]; omega))
  have Trt := Lib.hid (show X + (Y + Z) < pw 8192 from by first | omega | (rw [Int.mul_comm]; omega))
  have Tbk := Lib.hid (show X + Y - Y < pw 8192 from by first | omega | (rw [Int.mul_comm]; omega))
  have Ttr := Lib.hid (show X < pw 8192 from by first | omega | (rw [Int.mul_comm]; omega))
  have Tx := Lib.hid (show X * Y < pw 8192 from by first | omega | (rw [Int.mul_comm]; omega))
  have Ty := Lib.hid (show Y * X < pw 8192 from by first | omega | (rw [Int.mul_comm]; omega))
  have Tz := Lib.hid (show X * (Y + Z) < pw 8192 from by first | omega | (rw [Int.mul_comm]; omega))
  have Tu := Lib.hid (show X * Z < pw 8192 from by first | omega | (rw [Int.mul_comm]; omega))
  have Tw := Lib.hid (show X * Y + X * Z < pw 8192 from by first | omega | (rw [Int.mul_comm]; omega))
  have Tp := Lib.hid (show X * Y * Z < pw 8192 from by first | omega | (rw [Int.mul_comm]; omega))
  have Tr := Lib.hid (show Y * Z < pw 8192 from by first | omega | (rw [Int.mul_comm]; omega))
  have Tt := Lib.hid (show X * (Y * Z) < pw 8192 from by first | omega | (rw [Int.mul_comm]; omega))
  have BX0 := Lib.hid (show X < pw 8192 from by omega)
  have BX1 := Lib.hid (show Y < pw 8192 from by omega)
  have BX2 := Lib.hid (show Z < pw 8192 from by omega)
  have Ysub := Lib.hid (show Y ≤ X + Y from by omega)
  have E1 := Lib.hid (Int.add_comm X Y)
  have E2 := Lib.hid (Int.add_assoc X Y Z)
  have E3 := Lib.hid (show X + Y - Y = X by omega)
  have E4 := Lib.hid (Int.mul_comm X Y)
  have E5 := Lib.hid dis.symm
  have E6 := Lib.hid (Int.mul_assoc X Y Z)
  replace hX0 := Lib.hid hX0; replace hX1 := Lib.hid hX1; replace hX2 := Lib.hid hX2
  have P0 := Lib.hid h0; have P1 := Lib.hid h1; have P2 := Lib.hid h2
  clear h0 h1 h2 HP0 HP1 HP2 x1 y1 z1 m2 m3 le0 le1 le2 xy xz yz xys xyz xyz2 dis m4 m5 p0 p1 xy0 yz0 x0 y0 z0
  go_enter Tryd.func7, Tryd.ntmps7
  have HB := Lib.hid (Below.refl W.heap.size W)
  go_wp2_with fail
  refine (shown_any _).mono ?_
  rintro e x1 ⟨rfl, hb⟩
  replace HB := Lib.hid (via1' (w := W) (X := _) HB.out hb)
  replace P0 := Lib.hid (P0.out.on hb)
  replace P1 := Lib.hid (P1.out.on hb)
  replace P2 := Lib.hid (P2.out.on hb)
  clear hb
  go_wp2_with fail
  refine (nadd_sm A0 A1 n0 n1 c0 c1 l0 l1 _ P0.out P1.out (by omega) (by omega) (hX0.out) (hX1.out) Tab.out).mono ?_
  rintro e x2 ⟨Aab, nab, cab, lab, rfl, Pab, h1, h2, _, hb⟩
  replace HB := Lib.hid (via1' (w := W) (X := _) HB.out hb)
  replace P0 := Lib.hid (P0.out.on hb)
  replace P1 := Lib.hid (P1.out.on hb)
  replace P2 := Lib.hid (P2.out.on hb)
  clear hb
  replace Pab := Lib.hid Pab
  have Nab := Lib.hid (And.intro h1 h2)
  clear h1 h2
  go_wp2_with fail
  refine (nadd_sm A1 A0 n1 n0 c1 c0 l1 l0 _ P1.out P0.out (by omega) (by omega) (hX1.out) (hX0.out) Tba.out).mono ?_
  rintro e x3 ⟨Aba, nba, cba, lba, rfl, Pba, h1, h2, _, hb⟩
  replace HB := Lib.hid (via1' (w := W) (X := _) HB.out hb)
  replace P0 := Lib.hid (P0.out.on hb)
  replace P1 := Lib.hid (P1.out.on hb)
  replace P2 := Lib.hid (P2.out.on hb)
  replace Pab := Lib.hid (Pab.out.on hb)
  clear hb
  replace Pba := Lib.hid Pba
  have Nba := Lib.hid (And.intro h1 h2)
  clear h1 h2
  go_wp2_with fail
  refine (nadd_sm A1 A2 n1 n2 c1 c2 l1 l2 _ P1.out P2.out (by omega) (by omega) (hX1.out) (hX2.out) Tbc.out).mono ?_
  rintro e x4 ⟨Abc, nbc, cbc, lbc, rfl, Pbc, h1, h2, _, hb⟩
  replace HB := Lib.hid (via1' (w := W) (X := _) HB.out hb)
  replace P0 := Lib.hid (P0.out.on hb)
  replace P1 := Lib.hid (P1.out.on hb)
  replace P2 := Lib.hid (P2.out.on hb)
  replace Pab := Lib.hid (Pab.out.on hb)
  replace Pba := Lib.hid (Pba.out.on hb)
  clear hb
  replace Pbc := Lib.hid Pbc
  have Nbc := Lib.hid (And.intro h1 h2)
  clear h1 h2
  go_wp2_with fail
  refine (nadd_sm Aab A2 nab n2 cab c2 lab l2 _ Pab.out P2.out (Nat.le_trans (nat_len Pab.out Nab.out.1 Nab.out.2 (Tab.out)) (by decide)) (by omega) (Nab.out.2) (hX2.out) Tlf.out).mono ?_
  rintro e x5 ⟨Alf, nlf, clf, llf, rfl, Plf, h1, h2, _, hb⟩
  replace HB := Lib.hid (via1' (w := W) (X := _) HB.out hb)
  replace P0 := Lib.hid (P0.out.on hb)
  replace P1 := Lib.hid (P1.out.on hb)
  replace P2 := Lib.hid (P2.out.on hb)
  replace Pab := Lib.hid (Pab.out.on hb)
  replace Pba := Lib.hid (Pba.out.on hb)
  replace Pbc := Lib.hid (Pbc.out.on hb)
  clear hb
  replace Plf := Lib.hid Plf
  have Nlf := Lib.hid (And.intro h1 h2)
  clear h1 h2
  go_wp2_with fail
  refine (nadd_sm A0 Abc n0 nbc c0 cbc l0 lbc _ P0.out Pbc.out (by omega) (Nat.le_trans (nat_len Pbc.out Nbc.out.1 Nbc.out.2 (Tbc.out)) (by decide)) (hX0.out) (Nbc.out.2) Trt.out).mono ?_
  rintro e x6 ⟨Art, nrt, crt, lrt, rfl, Prt, h1, h2, _, hb⟩
  replace HB := Lib.hid (via1' (w := W) (X := _) HB.out hb)
  replace P0 := Lib.hid (P0.out.on hb)
  replace P1 := Lib.hid (P1.out.on hb)
  replace P2 := Lib.hid (P2.out.on hb)
  replace Pab := Lib.hid (Pab.out.on hb)
  replace Pba := Lib.hid (Pba.out.on hb)
  replace Pbc := Lib.hid (Pbc.out.on hb)
  replace Plf := Lib.hid (Plf.out.on hb)
  clear hb
  replace Prt := Lib.hid Prt
  have Nrt := Lib.hid (And.intro h1 h2)
  clear h1 h2
  go_wp2_with fail
  refine (nsub_sm Aab A1 nab n1 cab c1 lab l1 _ Pab.out P1.out (Nat.le_trans (nat_len Pab.out Nab.out.1 Nab.out.2 (Tab.out)) (by decide)) (by omega) (Nab.out.2) (hX1.out) Tab.out Ysub.out).mono ?_
  rintro e x7 ⟨Abk, nbk, cbk, lbk, rfl, Pbk, h1, h2, _, hb⟩
  replace HB := Lib.hid (via1' (w := W) (X := _) HB.out hb)
  replace P0 := Lib.hid (P0.out.on hb)
  replace P1 := Lib.hid (P1.out.on hb)
  replace P2 := Lib.hid (P2.out.on hb)
  replace Pab := Lib.hid (Pab.out.on hb)
  replace Pba := Lib.hid (Pba.out.on hb)
  replace Pbc := Lib.hid (Pbc.out.on hb)
  replace Plf := Lib.hid (Plf.out.on hb)
  replace Prt := Lib.hid (Prt.out.on hb)
  clear hb
  replace Pbk := Lib.hid Pbk
  have Nbk := Lib.hid (And.intro h1 h2)
  clear h1 h2
  go_wp2_with fail
  refine (equal_all Aab Aba nab nba cab cba lab lba _ Pab.out Pba.out Nab.out.1 Nba.out.1 (Nab.out.2.trans (Eq.trans (E1.out) Nba.out.2.symm)) (Nat.le_trans (nat_len Pab.out Nab.out.1 Nab.out.2 (Tab.out)) (by decide))).mono ?_
  rintro e x8 ⟨rfl, hb⟩
  replace HB := Lib.hid (via1' (w := W) (X := _) HB.out hb)
  replace P0 := Lib.hid (P0.out.on hb)
  replace P1 := Lib.hid (P1.out.on hb)
  replace P2 := Lib.hid (P2.out.on hb)
  replace Pab := Lib.hid (Pab.out.on hb)
  replace Pba := Lib.hid (Pba.out.on hb)
  replace Pbc := Lib.hid (Pbc.out.on hb)
  replace Plf := Lib.hid (Plf.out.on hb)
  replace Prt := Lib.hid (Prt.out.on hb)
  replace Pbk := Lib.hid (Pbk.out.on hb)
  clear hb
  clear Pab Nab
  clear Pba Nba
  go_wp2_with fail
  refine (equal_all Alf Art nlf nrt clf crt llf lrt _ Plf.out Prt.out Nlf.out.1 Nrt.out.1 (Nlf.out.2.trans (Eq.trans (E2.out) Nrt.out.2.symm)) (Nat.le_trans (nat_len Plf.out Nlf.out.1 Nlf.out.2 (Tlf.out)) (by decide))).mono ?_
  rintro e x9 ⟨rfl, hb⟩
  replace HB := Lib.hid (via1' (w := W) (X := _) HB.out hb)
  replace P0 := Lib.hid (P0.out.on hb)
  replace P1 := Lib.hid (P1.out.on hb)
  replace P2 := Lib.hid (P2.out.on hb)
  replace Pbc := Lib.hid (Pbc.out.on hb)
  replace Plf := Lib.hid (Plf.out.on hb)
  replace Prt := Lib.hid (Prt.out.on hb)
  replace Pbk := Lib.hid (Pbk.out.on hb)
  clear hb
  clear Plf Nlf
  clear Prt Nrt
  go_wp2_with fail
  refine (ntrim_any A0 n0 c0 l0 _ P0.out (by omega)).mono ?_
  rintro e x10 ⟨Atr, ntr, ctr, ltr, rfl, Ptr, h1, h2, _, hb⟩
  replace HB := Lib.hid (via1' (w := W) (X := _) HB.out hb)
  replace P0 := Lib.hid (P0.out.on hb)
  replace P1 := Lib.hid (P1.out.on hb)
  replace P2 := Lib.hid (P2.out.on hb)
  replace Pbc := Lib.hid (Pbc.out.on hb)
  replace Pbk := Lib.hid (Pbk.out.on hb)
  clear hb
  replace Ptr := Lib.hid Ptr
  have Ntr := Lib.hid (And.intro h1 h2)
  clear h1 h2
  replace Ntr := Lib.hid (And.intro Ntr.out.1 (Ntr.out.2.trans hX0.out))
  go_wp2_with fail
  refine (equal_all Abk Atr nbk ntr cbk ctr lbk ltr _ Pbk.out Ptr.out Nbk.out.1 Ntr.out.1 (Nbk.out.2.trans (Eq.trans (E3.out) Ntr.out.2.symm)) (Nat.le_trans (nat_len Pbk.out Nbk.out.1 Nbk.out.2 (Tbk.out)) (by decide))).mono ?_
  rintro e x11 ⟨rfl, hb⟩
  replace HB := Lib.hid (via1' (w := W) (X := _) HB.out hb)
  replace P0 := Lib.hid (P0.out.on hb)
  replace P1 := Lib.hid (P1.out.on hb)
  replace P2 := Lib.hid (P2.out.on hb)
  replace Pbc := Lib.hid (Pbc.out.on hb)
  replace Pbk := Lib.hid (Pbk.out.on hb)
  replace Ptr := Lib.hid (Ptr.out.on hb)
  clear hb
  clear Pbk Nbk
  clear Ptr Ntr
  go_wp2_with fail
  refine (nmul_sm A0 A1 n0 n1 c0 c1 l0 l1 _ P0.out P1.out (by omega) (by omega) (hX0.out) (hX1.out) BX0.out BX1.out Tx.out).mono ?_
  rintro e x12 ⟨Ax, nx, cx, lx, rfl, Px, h1, h2, _, hb⟩
  replace HB := Lib.hid (via1' (w := W) (X := _) HB.out hb)
  replace P0 := Lib.hid (P0.out.on hb)
  replace P1 := Lib.hid (P1.out.on hb)
  replace P2 := Lib.hid (P2.out.on hb)
  replace Pbc := Lib.hid (Pbc.out.on hb)
  clear hb
  replace Px := Lib.hid Px
  have Nx := Lib.hid (And.intro h1 h2)
  clear h1 h2
  go_wp2_with fail
  refine (nmul_sm A1 A0 n1 n0 c1 c0 l1 l0 _ P1.out P0.out (by omega) (by omega) (hX1.out) (hX0.out) BX1.out BX0.out Ty.out).mono ?_
  rintro e x13 ⟨Ay, ny, cy, ly, rfl, Py, h1, h2, _, hb⟩
  replace HB := Lib.hid (via1' (w := W) (X := _) HB.out hb)
  replace P0 := Lib.hid (P0.out.on hb)
  replace P1 := Lib.hid (P1.out.on hb)
  replace P2 := Lib.hid (P2.out.on hb)
  replace Pbc := Lib.hid (Pbc.out.on hb)
  replace Px := Lib.hid (Px.out.on hb)
  clear hb
  replace Py := Lib.hid Py
  have Ny := Lib.hid (And.intro h1 h2)
  clear h1 h2
  go_wp2_with fail
  refine (nmul_sm A0 Abc n0 nbc c0 cbc l0 lbc _ P0.out Pbc.out (by omega) (Nat.le_trans (nat_len Pbc.out Nbc.out.1 Nbc.out.2 (Tbc.out)) (by decide)) (hX0.out) (Nbc.out.2) BX0.out Tbc.out Tz.out).mono ?_
  rintro e x14 ⟨Az, nz, cz, lz, rfl, Pz, h1, h2, _, hb⟩
  replace HB := Lib.hid (via1' (w := W) (X := _) HB.out hb)
  replace P0 := Lib.hid (P0.out.on hb)
  replace P1 := Lib.hid (P1.out.on hb)
  replace P2 := Lib.hid (P2.out.on hb)
  replace Pbc := Lib.hid (Pbc.out.on hb)
  replace Px := Lib.hid (Px.out.on hb)
  replace Py := Lib.hid (Py.out.on hb)
  clear hb
  replace Pz := Lib.hid Pz
  have Nz := Lib.hid (And.intro h1 h2)
  clear h1 h2
  go_wp2_with fail
  refine (nmul_sm A0 A2 n0 n2 c0 c2 l0 l2 _ P0.out P2.out (by omega) (by omega) (hX0.out) (hX2.out) BX0.out BX2.out Tu.out).mono ?_
  rintro e x15 ⟨Au, nu, cu, lu, rfl, Pu, h1, h2, _, hb⟩
  replace HB := Lib.hid (via1' (w := W) (X := _) HB.out hb)
  replace P0 := Lib.hid (P0.out.on hb)
  replace P1 := Lib.hid (P1.out.on hb)
  replace P2 := Lib.hid (P2.out.on hb)
  replace Pbc := Lib.hid (Pbc.out.on hb)
  replace Px := Lib.hid (Px.out.on hb)
  replace Py := Lib.hid (Py.out.on hb)
  replace Pz := Lib.hid (Pz.out.on hb)
  clear hb
  replace Pu := Lib.hid Pu
  have Nu := Lib.hid (And.intro h1 h2)
  clear h1 h2
  go_wp2_with fail
  refine (nadd_sm Ax Au nx nu cx cu lx lu _ Px.out Pu.out (Nat.le_trans (nat_len Px.out Nx.out.1 Nx.out.2 (Tx.out)) (by decide)) (Nat.le_trans (nat_len Pu.out Nu.out.1 Nu.out.2 (Tu.out)) (by decide)) (Nx.out.2) (Nu.out.2) Tw.out).mono ?_
  rintro e x16 ⟨Aw, nw, cw, lw, rfl, Pw, h1, h2, _, hb⟩
  replace HB := Lib.hid (via1' (w := W) (X := _) HB.out hb)
  replace P0 := Lib.hid (P0.out.on hb)
  replace P1 := Lib.hid (P1.out.on hb)
  replace P2 := Lib.hid (P2.out.on hb)
  replace Pbc := Lib.hid (Pbc.out.on hb)
  replace Px := Lib.hid (Px.out.on hb)
  replace Py := Lib.hid (Py.out.on hb)
  replace Pz := Lib.hid (Pz.out.on hb)
  replace Pu := Lib.hid (Pu.out.on hb)
  clear hb
  replace Pw := Lib.hid Pw
  have Nw := Lib.hid (And.intro h1 h2)
  clear h1 h2
  go_wp2_with fail
  refine (nmul_sm Ax A2 nx n2 cx c2 lx l2 _ Px.out P2.out (Nat.le_trans (nat_len Px.out Nx.out.1 Nx.out.2 (Tx.out)) (by decide)) (by omega) (Nx.out.2) (hX2.out) Tx.out BX2.out Tp.out).mono ?_
  rintro e x17 ⟨Ap, np, cp, lp, rfl, Pp, h1, h2, _, hb⟩
  replace HB := Lib.hid (via1' (w := W) (X := _) HB.out hb)
  replace P0 := Lib.hid (P0.out.on hb)
  replace P1 := Lib.hid (P1.out.on hb)
  replace P2 := Lib.hid (P2.out.on hb)
  replace Pbc := Lib.hid (Pbc.out.on hb)
  replace Px := Lib.hid (Px.out.on hb)
  replace Py := Lib.hid (Py.out.on hb)
  replace Pz := Lib.hid (Pz.out.on hb)
  replace Pu := Lib.hid (Pu.out.on hb)
  replace Pw := Lib.hid (Pw.out.on hb)
  clear hb
  replace Pp := Lib.hid Pp
  have Np := Lib.hid (And.intro h1 h2)
  clear h1 h2
  go_wp2_with fail
  refine (nmul_sm A1 A2 n1 n2 c1 c2 l1 l2 _ P1.out P2.out (by omega) (by omega) (hX1.out) (hX2.out) BX1.out BX2.out Tr.out).mono ?_
  rintro e x18 ⟨Ar, nr, cr, lr, rfl, Pr, h1, h2, _, hb⟩
  replace HB := Lib.hid (via1' (w := W) (X := _) HB.out hb)
  replace P0 := Lib.hid (P0.out.on hb)
  replace P1 := Lib.hid (P1.out.on hb)
  replace P2 := Lib.hid (P2.out.on hb)
  replace Pbc := Lib.hid (Pbc.out.on hb)
  replace Px := Lib.hid (Px.out.on hb)
  replace Py := Lib.hid (Py.out.on hb)
  replace Pz := Lib.hid (Pz.out.on hb)
  replace Pu := Lib.hid (Pu.out.on hb)
  replace Pw := Lib.hid (Pw.out.on hb)
  replace Pp := Lib.hid (Pp.out.on hb)
  clear hb
  replace Pr := Lib.hid Pr
  have Nr := Lib.hid (And.intro h1 h2)
  clear h1 h2
  go_wp2_with fail
  refine (nmul_sm A0 Ar n0 nr c0 cr l0 lr _ P0.out Pr.out (by omega) (Nat.le_trans (nat_len Pr.out Nr.out.1 Nr.out.2 (Tr.out)) (by decide)) (hX0.out) (Nr.out.2) BX0.out Tr.out Tt.out).mono ?_
  rintro e x19 ⟨At, nt, ct, lt, rfl, Pt, h1, h2, _, hb⟩
  replace HB := Lib.hid (via1' (w := W) (X := _) HB.out hb)
  replace P0 := Lib.hid (P0.out.on hb)
  replace P1 := Lib.hid (P1.out.on hb)
  replace P2 := Lib.hid (P2.out.on hb)
  replace Pbc := Lib.hid (Pbc.out.on hb)
  replace Px := Lib.hid (Px.out.on hb)
  replace Py := Lib.hid (Py.out.on hb)
  replace Pz := Lib.hid (Pz.out.on hb)
  replace Pu := Lib.hid (Pu.out.on hb)
  replace Pw := Lib.hid (Pw.out.on hb)
  replace Pp := Lib.hid (Pp.out.on hb)
  replace Pr := Lib.hid (Pr.out.on hb)
  clear hb
  replace Pt := Lib.hid Pt
  have Nt := Lib.hid (And.intro h1 h2)
  clear h1 h2
  go_wp2_with fail
  refine (equal_all Ax Ay nx ny cx cy lx ly _ Px.out Py.out Nx.out.1 Ny.out.1 (Nx.out.2.trans (Eq.trans (E4.out) Ny.out.2.symm)) (Nat.le_trans (nat_len Px.out Nx.out.1 Nx.out.2 (Tx.out)) (by decide))).mono ?_
  rintro e x20 ⟨rfl, hb⟩
  replace HB := Lib.hid (via1' (w := W) (X := _) HB.out hb)
  replace P0 := Lib.hid (P0.out.on hb)
  replace P1 := Lib.hid (P1.out.on hb)
  replace P2 := Lib.hid (P2.out.on hb)
  replace Pbc := Lib.hid (Pbc.out.on hb)
  replace Px := Lib.hid (Px.out.on hb)
  replace Py := Lib.hid (Py.out.on hb)
  replace Pz := Lib.hid (Pz.out.on hb)
  replace Pu := Lib.hid (Pu.out.on hb)
  replace Pw := Lib.hid (Pw.out.on hb)
  replace Pp := Lib.hid (Pp.out.on hb)
  replace Pr := Lib.hid (Pr.out.on hb)
  replace Pt := Lib.hid (Pt.out.on hb)
  clear hb
  clear Px Nx
  clear Py Ny
  go_wp2_with fail
  refine (equal_all Az Aw nz nw cz cw lz lw _ Pz.out Pw.out Nz.out.1 Nw.out.1 (Nz.out.2.trans (Eq.trans (E5.out) Nw.out.2.symm)) (Nat.le_trans (nat_len Pz.out Nz.out.1 Nz.out.2 (Tz.out)) (by decide))).mono ?_
  rintro e x21 ⟨rfl, hb⟩
  replace HB := Lib.hid (via1' (w := W) (X := _) HB.out hb)
  replace P0 := Lib.hid (P0.out.on hb)
  replace P1 := Lib.hid (P1.out.on hb)
  replace P2 := Lib.hid (P2.out.on hb)
  replace Pbc := Lib.hid (Pbc.out.on hb)
  replace Pz := Lib.hid (Pz.out.on hb)
  replace Pu := Lib.hid (Pu.out.on hb)
  replace Pw := Lib.hid (Pw.out.on hb)
  replace Pp := Lib.hid (Pp.out.on hb)
  replace Pr := Lib.hid (Pr.out.on hb)
  replace Pt := Lib.hid (Pt.out.on hb)
  clear hb
  clear Pz Nz
  clear Pw Nw
  go_wp2_with fail
  refine (equal_all Ap At np nt cp ct lp lt _ Pp.out Pt.out Np.out.1 Nt.out.1 (Np.out.2.trans (Eq.trans (E6.out) Nt.out.2.symm)) (Nat.le_trans (nat_len Pp.out Np.out.1 Np.out.2 (Tp.out)) (by decide))).mono ?_
  rintro e x22 ⟨rfl, hb⟩
  replace HB := Lib.hid (via1' (w := W) (X := _) HB.out hb)
  replace P0 := Lib.hid (P0.out.on hb)
  replace P1 := Lib.hid (P1.out.on hb)
  replace P2 := Lib.hid (P2.out.on hb)
  replace Pbc := Lib.hid (Pbc.out.on hb)
  replace Pu := Lib.hid (Pu.out.on hb)
  replace Pp := Lib.hid (Pp.out.on hb)
  replace Pr := Lib.hid (Pr.out.on hb)
  replace Pt := Lib.hid (Pt.out.on hb)
  clear hb
  clear Pp Np
  clear Pt Nt
  go_wp2
  go_ret
  exact ⟨by simp, HB.out⟩
end Go.Proofs.YtmjidpkddiinaaaDoor
