/-
  What NatWords answers: true.
-/
import Derived.Test.YtmjidpkddiinaaaDoorH2
import Derived.Test.YtmjidpkddiinaaaDoorX7
namespace Go.Proofs.YtmjidpkddiinaaaDoor
open Go.RowKit Go.Shelf

set_option maxRecDepth 100000 in
set_option maxHeartbeats 8000000 in
theorem words_any (A0 A1 : Option Addr) (n0 n1 c0 c1 : Nat) (l0 l1 : List Int) (v : Int) (W : World) (h0 : Sl W W.heap.size A0 n0 c0 l0) (h1 : Sl W W.heap.size A1 n1 c1 l1) (hv : Word v) :
    Calls Tryd.prog 3 #[.slice A0 n0 c0, .slice A1 n1 c1, .int .u64 v] W fun e W' => e = .returned (.bool true) ∧ Below W.heap.size W W' := by
  have HP0 := Lib.hid h0; have HP1 := Lib.hid h1
  by_cases la : 400 < n0
  · have la' : (400 : Int) < (n0 : Int) := by omega
    clear h0 h1
    go_enter Tryd.func3, Tryd.ntmps3
    go_wp2_with fail
    refine (shown_any _).mono ?_
    rintro e x0 ⟨rfl, hb⟩
    go_wp2
    go_ret
    exact ⟨rfl, hb⟩
  by_cases lb : 400 < n1
  · have la' : ¬ (400 : Int) < (n0 : Int) := by omega
    have lb' : (400 : Int) < (n1 : Int) := by omega
    clear h0 h1
    go_enter Tryd.func3, Tryd.ntmps3
    go_wp2_with fail
    refine (shown_any _).mono ?_
    rintro e x0 ⟨rfl, hb⟩
    go_wp2
    go_ret
    exact ⟨rfl, hb⟩
  have la' : ¬ (400 : Int) < (n0 : Int) := by omega
  have lb' : ¬ (400 : Int) < (n1 : Int) := by omega
  have P0 := Lib.hid h0; have P1 := Lib.hid h1
  obtain ⟨VV, VB, hV⟩ : ∃ VV VB, valV (natV l0) = VV ∧ valB (natV l0) = VB := ⟨_, _, rfl, rfl⟩
  obtain ⟨LL, hL⟩ : ∃ LL, lenV (natV l0) = LL := ⟨_, rfl⟩
  obtain ⟨CC, hC⟩ : ∃ CC, cmpI (natV l0) (natV l1) = CC := ⟨_, rfl⟩
  have HV := Lib.hid hV; have HL := Lib.hid hL; have HC := Lib.hid hC
  have HWv := Lib.hid hv
  clear hV hL hC hv h0 h1 HP0 HP1
  go_enter Tryd.func3, Tryd.ntmps3
  have HB := Lib.hid (Below.refl W.heap.size W)
  go_wp2_with fail
  refine (shown_any _).mono ?_
  rintro e x1 ⟨rfl, hb⟩
  replace HB := Lib.hid (via1' (w := W) (X := _) HB.out hb)
  replace P0 := Lib.hid (P0.out.on hb)
  replace P1 := Lib.hid (P1.out.on hb)
  clear hb
  go_wp2_with fail
  refine (ntrim_any A0 n0 c0 l0 _ P0.out (by omega)).mono ?_
  rintro e x2 ⟨At, nt, ct, lt, rfl, Pt, h1, h2, _, hb⟩
  replace HB := Lib.hid (via1' (w := W) (X := _) HB.out hb)
  replace P0 := Lib.hid (P0.out.on hb)
  replace P1 := Lib.hid (P1.out.on hb)
  clear hb
  replace Pt := Lib.hid Pt
  have Nt := Lib.hid (And.intro h1 h2)
  clear h1 h2
  go_wp2_with fail
  refine (rtrim_any A0 n0 c0 l0 _ P0.out (by omega)).mono ?_
  rintro e x3 ⟨Au, nu, cu, lu, rfl, Pu, h1, h2, _, hb⟩
  replace HB := Lib.hid (via1' (w := W) (X := _) HB.out hb)
  replace P0 := Lib.hid (P0.out.on hb)
  replace P1 := Lib.hid (P1.out.on hb)
  replace Pt := Lib.hid (Pt.out.on hb)
  clear hb
  replace Pu := Lib.hid Pu
  have Nu := Lib.hid (And.intro h1 h2)
  clear h1 h2
  have Qu := Lib.hid (show Sl _ _ Au nu cu lt by have := Pu.out; rw [show lu = lt from norm_unique Pu.out.lim Pt.out.lim Nu.out.1 Nt.out.1 (Nu.out.2.trans Nt.out.2.symm)] at this; exact this)
  go_wp2_with fail
  refine (same_all _ _ _ _ _ _ lt _ Pt.out Qu.out).mono ?_
  rintro e x4 ⟨rfl, hb⟩
  replace HB := Lib.hid (via1' (w := W) (X := _) HB.out hb)
  replace P0 := Lib.hid (P0.out.on hb)
  replace P1 := Lib.hid (P1.out.on hb)
  clear hb
  clear Pt Pu Qu Nt Nu
  go_wp2_with fail
  refine (nof_any v HWv.out _).mono ?_
  rintro e x5 ⟨At, nt, ct, lt, rfl, Pt, h1, h2, _, hb⟩
  replace HB := Lib.hid (via1' (w := W) (X := _) HB.out hb)
  replace P0 := Lib.hid (P0.out.on hb)
  replace P1 := Lib.hid (P1.out.on hb)
  clear hb
  replace Pt := Lib.hid Pt
  have Nt := Lib.hid (And.intro h1 h2)
  clear h1 h2
  go_wp2_with fail
  refine (rof_any v HWv.out _).mono ?_
  rintro e x6 ⟨Au, nu, cu, lu, rfl, Pu, h1, h2, _, hb⟩
  replace HB := Lib.hid (via1' (w := W) (X := _) HB.out hb)
  replace P0 := Lib.hid (P0.out.on hb)
  replace P1 := Lib.hid (P1.out.on hb)
  replace Pt := Lib.hid (Pt.out.on hb)
  clear hb
  replace Pu := Lib.hid Pu
  have Nu := Lib.hid (And.intro h1 h2)
  clear h1 h2
  have Qu := Lib.hid (show Sl _ _ Au nu cu lt by have := Pu.out; rw [show lu = lt from norm_unique Pu.out.lim Pt.out.lim Nu.out.1 Nt.out.1 (Nu.out.2.trans Nt.out.2.symm)] at this; exact this)
  go_wp2_with fail
  refine (same_all _ _ _ _ _ _ lt _ Pt.out Qu.out).mono ?_
  rintro e x7 ⟨rfl, hb⟩
  replace HB := Lib.hid (via1' (w := W) (X := _) HB.out hb)
  replace P0 := Lib.hid (P0.out.on hb)
  replace P1 := Lib.hid (P1.out.on hb)
  clear hb
  clear Pt Pu Qu Nt Nu
  have CV := Lib.hid (fun W' h => show Calls Tryd.prog 17 #[.slice A0 n0 c0] W' (fun e w' => e = .returned (.tuple #[.int .u64 VV, .bool VB]) ∧ Below W'.heap.size W' w') from by rw [← HV.out.1, ← HV.out.2]; exact nvalue_any A0 n0 c0 l0 W' h (by omega))
  go_wp2_with fail
  refine (CV.out _ P0.out).mono ?_
  rintro e x8 ⟨rfl, hb⟩
  replace HB := Lib.hid (via1' (w := W) (X := _) HB.out hb)
  replace P0 := Lib.hid (P0.out.on hb)
  replace P1 := Lib.hid (P1.out.on hb)
  clear hb
  have CV2 := Lib.hid (fun W' h => show Calls Tryd.prog 18 #[.slice A0 n0 c0] W' (fun e w' => e = .returned (.tuple #[.int .u64 VV, .bool VB]) ∧ Below W'.heap.size W' w') from by rw [← HV.out.1, ← HV.out.2]; exact rvalue_any A0 n0 c0 l0 W' h (by omega))
  go_wp2_with fail
  refine (CV2.out _ P0.out).mono ?_
  rintro e x9 ⟨rfl, hb⟩
  replace HB := Lib.hid (via1' (w := W) (X := _) HB.out hb)
  replace P0 := Lib.hid (P0.out.on hb)
  replace P1 := Lib.hid (P1.out.on hb)
  clear hb
  have CL := Lib.hid (fun W' h => show Calls Tryd.prog 19 #[.slice A0 n0 c0] W' (fun e w' => e = .returned (.int .i64 LL) ∧ Below W'.heap.size W' w') from by rw [← HL.out]; exact nlen_any A0 n0 c0 l0 W' h (by omega))
  go_wp2_with fail
  refine (CL.out _ P0.out).mono ?_
  rintro e x10 ⟨rfl, hb⟩
  replace HB := Lib.hid (via1' (w := W) (X := _) HB.out hb)
  replace P0 := Lib.hid (P0.out.on hb)
  replace P1 := Lib.hid (P1.out.on hb)
  clear hb
  have CL2 := Lib.hid (fun W' h => show Calls Tryd.prog 20 #[.slice A0 n0 c0] W' (fun e w' => e = .returned (.int .i64 LL) ∧ Below W'.heap.size W' w') from by rw [← HL.out]; exact rlen2_any A0 n0 c0 l0 W' h (by omega))
  go_wp2_with fail
  refine (CL2.out _ P0.out).mono ?_
  rintro e x11 ⟨rfl, hb⟩
  replace HB := Lib.hid (via1' (w := W) (X := _) HB.out hb)
  replace P0 := Lib.hid (P0.out.on hb)
  replace P1 := Lib.hid (P1.out.on hb)
  clear hb
  have CC1 := Lib.hid (fun W' h h' => show Calls Tryd.prog 21 #[.slice A0 n0 c0, .slice A1 n1 c1] W' (fun e w' => e = .returned (.int .i64 CC) ∧ Below W'.heap.size W' w') from by rw [← HC.out]; exact ncmp_any A0 A1 n0 n1 c0 c1 l0 l1 W' h h' (by omega) (by omega))
  go_wp2_with fail
  refine (CC1.out _ P0.out P1.out).mono ?_
  rintro e x12 ⟨rfl, hb⟩
  replace HB := Lib.hid (via1' (w := W) (X := _) HB.out hb)
  replace P0 := Lib.hid (P0.out.on hb)
  replace P1 := Lib.hid (P1.out.on hb)
  clear hb
  have CC2 := Lib.hid (fun W' h h' => show Calls Tryd.prog 22 #[.slice A0 n0 c0, .slice A1 n1 c1] W' (fun e w' => e = .returned (.int .i64 CC) ∧ Below W'.heap.size W' w') from by rw [← HC.out]; exact rcmp_any A0 A1 n0 n1 c0 c1 l0 l1 W' h h' (by omega) (by omega))
  go_wp2_with fail
  refine (CC2.out _ P0.out P1.out).mono ?_
  rintro e x13 ⟨rfl, hb⟩
  replace HB := Lib.hid (via1' (w := W) (X := _) HB.out hb)
  replace P0 := Lib.hid (P0.out.on hb)
  replace P1 := Lib.hid (P1.out.on hb)
  clear hb
  go_wp2
  go_ret
  exact ⟨by simp, HB.out⟩
end Go.Proofs.YtmjidpkddiinaaaDoor
