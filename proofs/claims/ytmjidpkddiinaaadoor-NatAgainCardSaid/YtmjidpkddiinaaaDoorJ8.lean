/-
  What NatAgain answers: true.
-/
import Derived.Test.YtmjidpkddiinaaaDoorH2
import Derived.Test.YtmjidpkddiinaaaDoorX7
import Derived.Test.YtmjidpkddiinaaaDoorX8
namespace Go.Proofs.YtmjidpkddiinaaaDoor
open Go.RowKit Go.Shelf

set_option maxRecDepth 100000 in
set_option maxHeartbeats 8000000 in
theorem again_any (A0 A1 : Option Addr) (n0 n1 c0 c1 : Nat) (l0 l1 : List Int) (W : World) (h0 : Sl W W.heap.size A0 n0 c0 l0) (h1 : Sl W W.heap.size A1 n1 c1 l1) :
    Calls Tryd.prog 10 #[.slice A0 n0 c0, .slice A1 n1 c1] W fun e W' => e = .returned (.bool true) ∧ Below W.heap.size W W' := by
  have HP0 := Lib.hid h0
  have HP1 := Lib.hid h1
  by_cases lg0 : 100 < n0
  · have m0 : (100 : Int) < (n0 : Int) := by omega
    clear h0 h1
    go_enter Tryd.func10, Tryd.ntmps10
    go_wp2_with fail
    refine (shown_any _).mono ?_
    rintro e x0 ⟨rfl, hb⟩
    go_wp2
    go_ret
    exact ⟨rfl, hb⟩
  by_cases lg1 : 100 < n1
  · have m0 : ¬ (100 : Int) < (n0 : Int) := by omega
    have m1 : (100 : Int) < (n1 : Int) := by omega
    clear h0 h1
    go_enter Tryd.func10, Tryd.ntmps10
    go_wp2_with fail
    refine (shown_any _).mono ?_
    rintro e x0 ⟨rfl, hb⟩
    go_wp2
    go_ret
    exact ⟨rfl, hb⟩
  have m0 : ¬ (100 : Int) < (n0 : Int) := by omega
  have m1 : ¬ (100 : Int) < (n1 : Int) := by omega
  obtain ⟨X, hX0⟩ : ∃ X, natV l0 = X := ⟨_, rfl⟩
  have x0 : 0 ≤ X := by rw [← hX0]; exact natV_nonneg h0.lim
  have x1 : X < pw 3200 := by rw [← hX0]; exact sl_bound (k := 100) h0 (by omega)
  have y1 : natV l1 < pw 3200 := sl_bound (k := 100) h1 (by omega)
  have le0 : pw 3201 ≤ pw 8192 := pw_mono (by decide) (by decide)
  have e1 : pw 3201 = 2 * pw 3200 := pw_succ 3200 (by decide)
  have x2 : X < pw 8192 := by have := pw_pos 3200; omega
  have y2 : natV l1 < pw 8192 := by have := pw_pos 3200; omega
  have P0 := Lib.hid h0; have P1 := Lib.hid h1
  have Tt := Lib.hid (fun _ : Unit => x2)
  have Y2 := Lib.hid (fun _ : Unit => y2)
  have X1 := Lib.hid (fun _ : Unit => x1)
  have LE1 := Lib.hid (fun _ : Unit => e1)
  have LE0 := Lib.hid (fun _ : Unit => le0)
  replace hX0 := Lib.hid hX0
  have nb0 : n0 ≤ 100 := by omega
  clear h0 h1 HP0 HP1 x0 x1 y1 le0 e1 x2 y2
  go_enter Tryd.func10, Tryd.ntmps10
  have HB := Lib.hid (Below.refl W.heap.size W)
  go_wp2_with fail
  refine (shown_any _).mono ?_
  rintro e x1 ⟨rfl, hb⟩
  replace HB := Lib.hid (via1' (w := W) (X := _) HB.out hb)
  replace P0 := Lib.hid (P0.out.on hb)
  replace P1 := Lib.hid (P1.out.on hb)
  clear hb
  go_wp2_with fail
  refine (ndigits_any A0 n0 c0 l0 _ P0.out (by omega)).mono ?_
  rintro e x20 ⟨u, rfl, g1, g2, hb⟩
  replace HB := Lib.hid (via1' (w := W) (X := _) HB.out hb)
  replace P0 := Lib.hid (P0.out.on hb)
  replace P1 := Lib.hid (P1.out.on hb)
  clear hb
  have ul : u.length ≤ 1001 := canon_len (n := 100) g1 (by rw [g2, hX0.out]; exact X1.out ())
  obtain ⟨s, hs⟩ : ∃ s : ByteArray, s = ⟨u.toArray⟩ := ⟨_, rfl⟩
  rw [← hs]
  have sd : s.data.toList = u := by rw [hs]
  have ss : s.size = u.length := by rw [bytes_size, sd]
  have CP := Lib.hid (fun W' => show Calls Tryd.prog 37 #[.string s] W' (NatRPost 0 X W') from by
    have h := nparse_ok s W' (by omega) (by rw [sd]; exact ⟨g1.ne, g1.all⟩)
    rw [sd, g2, hX0.out, (over_ok (Tt.out ())).1, (over_ok (Tt.out ())).2] at h
    exact h)
  have sp : 0 < s.size := by
    rw [ss]; rcases Nat.eq_zero_or_pos u.length with z | z
    · exact absurd (List.eq_nil_of_length_eq_zero z) g1.ne
    · exact z
  have sp1 : ¬ (s.size : Int) = 0 := by omega
  have sp2 : ((s.size : Int) == 0) = false := by simpa using sp1
  have sp3 : (0 : Int) < (s.size : Int) := by omega
  have sb : (s.size : Int) ≤ 1001 := by omega
  have hd0 : 1 < s.size → (s[0]'sp).toNat ≠ 48 := fun h1 e => by
    rw [bytes_get s 0 sp] at e
    rcases g1.hd with z | z
    · rw [ss, z] at h1; simp at h1
    · apply z
      simp only [sd] at e
      rw [List.head?_eq_getElem?, List.getElem?_eq_getElem (show 0 < u.length by omega)]
      exact congrArg some (UInt8.toNat_inj.1 e)
  replace hd0 := Lib.hid hd0
  clear hs sd ss ul g1 g2
  go_wp2_with fail
  refine (CP.out _).mono ?_
  rintro e x2 ⟨Ax, nx, cx, lx, rfl, Px, h1, h2, _, hb⟩
  replace HB := Lib.hid (via1' (w := W) (X := _) HB.out hb)
  replace P0 := Lib.hid (P0.out.on hb)
  replace P1 := Lib.hid (P1.out.on hb)
  clear hb
  replace Px := Lib.hid Px
  have Nx := Lib.hid (And.intro h1 h2)
  clear h1 h2
  go_wp2_with fail
  refine (ntrim_any A0 n0 c0 l0 _ P0.out (by omega)).mono ?_
  rintro e x3 ⟨At, nt, ct, lt, rfl, Pt, h1, h2, _, hb⟩
  replace HB := Lib.hid (via1' (w := W) (X := _) HB.out hb)
  replace P0 := Lib.hid (P0.out.on hb)
  replace P1 := Lib.hid (P1.out.on hb)
  replace Px := Lib.hid (Px.out.on hb)
  clear hb
  replace Pt := Lib.hid Pt
  have Nt := Lib.hid (And.intro h1 h2)
  clear h1 h2
  replace Nt := Lib.hid (And.intro Nt.out.1 (Nt.out.2.trans hX0.out))
  have Tx := Tt
  go_wp2_with fail
  refine (equal_all Ax At nx nt cx ct lx lt _ Px.out Pt.out Nx.out.1 Nt.out.1 (Nx.out.2.trans (Eq.trans (rfl) Nt.out.2.symm)) (Nat.le_trans (nat_len Px.out Nx.out.1 Nx.out.2 ((Tx.out ()))) (by decide))).mono ?_
  rintro e x4 ⟨rfl, hb⟩
  replace HB := Lib.hid (via1' (w := W) (X := _) HB.out hb)
  replace P0 := Lib.hid (P0.out.on hb)
  replace P1 := Lib.hid (P1.out.on hb)
  replace Px := Lib.hid (Px.out.on hb)
  replace Pt := Lib.hid (Pt.out.on hb)
  clear hb
  clear Px Nx
  clear Pt Nt
  have cases : Hid ((¬ (1 : Int) < (s.size : Int)) ∨ ((1 : Int) < (s.size : Int) ∧ (s[0]'sp).toNat ≠ 48)) := by
    by_cases c : 1 < s.size
    · exact .inr ⟨by omega, hd0.out c⟩
    · exact .inl (by omega)
  clear hd0
  rcases cases.out with hc | ⟨hc, hq⟩
  all_goals clear cases
  all_goals
    go_wp2_with (at_builtin; refine wpList_appS rfl _ _ rfl _ _ 0 [] (empty_own _) rfl A0 n0 c0 l0 rfl (by repeat' first | exact P0.out | refine Sl.alloc ?_ _) (by omega) (by simp) ?_; intro v1 w1 hown hb1)
    clear hc CP sp1 sp2 sp3 sb
    replace hb1 := (below_new _ _).trans hb1
    rw [Nat.zero_add, List.nil_append] at hown
    obtain ⟨Aw, cw, rfl, Sw, _⟩ := Sl.of_own hown P0.out.lim
    replace HB := Lib.hid (via1' HB.out hb1)
    replace P0 := Lib.hid (P0.out.on hb1)
    replace P1 := Lib.hid (P1.out.on hb1)
    clear hb1 hown
    have PW := Lib.hid Sw
    have PA := P0
    have HW := HB
    clear Sw HB
    have ha := Lib.hid (fun _ : Unit => show natV l0 < pw 8192 by rw [hX0.out]; exact Tt.out ())
    refine (ntrim_m A0 n0 c0 l0 _ P0.out (by omega)).mono ?_
    rintro e y1 ⟨A2, n2, c2, rfl, M, hb⟩
    have HS := Lib.hid hb
    have M2 := Lib.hid M
    replace P0 := Lib.hid (P0.out.on hb); replace P1 := Lib.hid (P1.out.on hb)
    clear M hb
    go_wp2_with fail
    refine (nadd_m A0 A1 n0 n1 c0 c1 l0 l1 _ P0.out P1.out (by omega) (by omega) (ha.out ()) (Y2.out ())).mono ?_
    rintro e y2 ⟨A3, n3, c3, er3, rfl, M, hb⟩
    have M3 := Lib.hid (M.from HS.out.size)
    replace M2 := Lib.hid (M2.out.on hb)
    replace HS := Lib.hid (via1' HS.out hb)
    replace P0 := Lib.hid (P0.out.on hb); replace P1 := Lib.hid (P1.out.on hb)
    clear M hb
    go_wp2_with fail
    refine (nsub_m A0 none n0 0 c0 0 l0 [] _ P0.out (Sl.nil_ _ _) (by omega) (by omega) (ha.out ()) (natV_nonneg P0.out.lim)).mono ?_
    rintro e y3 ⟨A4, n4, c4, er4, rfl, M, hb⟩
    have M4 := Lib.hid (M.from HS.out.size)
    replace M2 := Lib.hid (M2.out.on hb)
    replace M3 := Lib.hid (M3.out.on hb)
    replace HS := Lib.hid (via1' HS.out hb)
    replace P0 := Lib.hid (P0.out.on hb); replace P1 := Lib.hid (P1.out.on hb)
    clear M hb
    go_wp2_with first
      | (at_builtin; refine wpList_appS rfl _ _ rfl _ _ 0 [] (empty_own _) rfl A0 n0 c0 l0 rfl (by repeat' first | exact P0.out | refine Sl.alloc ?_ _) (by omega) (by simp) ?_; intro v2 w2 hown2 hb2; replace hb2 := (below_new _ _).trans hb2)
      | (at_builtin; refine wpList_app1 rfl _ _ rfl _ v2 (0 + n0) ([] ++ l0) 1 hown2 rfl rfl (by omega) hb2.size ?_; intro v3 w3 hown3 hb3; replace hb3 := hb2.trans hb3)
    rw [Nat.zero_add, List.nil_append] at hown3
    have one := natV_one_more P0.out.lim
    obtain ⟨Ad, cd, rfl, Sd, _⟩ := Sl.of_own hown3 (fun x hx => by
      rcases List.mem_append.1 hx with h | h
      · exact P0.out.lim x h
      · rw [List.mem_singleton.1 h]; exact ⟨by decide, by decide⟩)
    have od : Hid (natV (l0 ++ [1]) < pw 8192) := by
      have e := pw_mono (a := 32 * (l0.length : Int) + 1) (b := 3201) (by omega) (by rw [P0.out.len]; omega)
      have e2 := LE0.out ()
      unfold Hid; omega
    replace M2 := Lib.hid (M2.out.on hb3); replace M3 := Lib.hid (M3.out.on hb3); replace M4 := Lib.hid (M4.out.on hb3)
    replace HS := Lib.hid (via1' HS.out hb3)
    replace P0 := Lib.hid (P0.out.on hb3)
    replace one := Lib.hid one.1
    replace Sd := Lib.hid Sd
    clear hb3 hown3 hb2 hown2 P1
    refine (ndiv_m A0 Ad n0 (n0 + 1) c0 cd l0 (l0 ++ [1]) _ P0.out Sd.out (by omega) (by omega) ⟨ha.out (), od.out⟩ one.out).mono ?_
    rintro e y4 ⟨A9, n9, c9, A5, n5, c5, er5, rfl, M, hb⟩
    have M5 := Lib.hid (M.from HS.out.size)
    replace M2 := Lib.hid (M2.out.on hb); replace M3 := Lib.hid (M3.out.on hb); replace M4 := Lib.hid (M4.out.on hb)
    replace HS := Lib.hid (via1' HS.out hb)
    replace P0 := Lib.hid (P0.out.on hb)
    clear M hb Sd one od
    go_wp2_with fail
    refine (nshr_m A0 n0 c0 l0 0 _ P0.out (by omega) (by decide) (by decide) (ha.out ())).mono ?_
    rintro e y5 ⟨A6, n6, c6, b6, er6, rfl, M, hb⟩
    have M6 := Lib.hid (M.from HS.out.size)
    replace M2 := Lib.hid (M2.out.on hb); replace M3 := Lib.hid (M3.out.on hb); replace M4 := Lib.hid (M4.out.on hb); replace M5 := Lib.hid (M5.out.on hb)
    replace HS := Lib.hid (via1' HS.out hb)
    replace P0 := Lib.hid (P0.out.on hb)
    clear M hb
    go_wp2_with fail
    refine (nshl_m A0 n0 c0 l0 0 _ P0.out (by omega) (by decide) (by rw [show pw 0 = 1 from rfl, Int.mul_one]; exact ha.out ())).mono ?_
    rintro e y6 ⟨A7, n7, c7, er7, rfl, M, hb⟩
    have M7 := Lib.hid (M.from HS.out.size)
    replace M2 := Lib.hid (M2.out.on hb); replace M3 := Lib.hid (M3.out.on hb); replace M4 := Lib.hid (M4.out.on hb); replace M5 := Lib.hid (M5.out.on hb); replace M6 := Lib.hid (M6.out.on hb)
    replace HS := Lib.hid (via1' HS.out hb)
    clear M hb P0
    have SIX := Lib.hid (six_start (c0 := c2) (c1 := c3) (c2 := c4) (c3 := c5) (c4 := c6) (c5 := c7) HS.out M2.out M3.out M4.out M5.out M6.out M7.out)
    clear HS M2 M3 M4 M5 M6 M7 ha X1 LE1 LE0 Y2 Tt Tx hX0
    go_wp2
    generalize y6.alloc (Obj.cells #[.slice A2 n2 c2, .slice A3 n3 c3, .slice A4 n4 c4, .slice A5 n5 c5, .slice A6 n6 c6, .slice A7 n7 c7] 26) = wL at *
    generalize y6.heap.size = g at *
    generalize pick6 A2 A3 A4 A5 A6 A7 = FA at *
    generalize pick6 n2 n3 n4 n5 n6 n7 = FN at *
    generalize pick6 c2 c3 c4 c5 c6 c7 = FC at *
    go_loopw [24] (fun ii wx => ∃ i : Nat, ii = .int .i64 (i : Int) ∧ i ≤ 6 ∧ Hid (Six w1 wx g FA FN FC)) (fun ii _ => 6 - (intOf ii).toNat)
    case atStart => exact ⟨0, rfl, by omega, SIX.out⟩
    case round =>
      obtain ⟨i, rfl, hi, HX⟩ := hrel
      clear SIX
      by_cases hlt : i < 6
      · have ilt : (i : Int) < 6 := by omega
        have i0 : (0 : Int) ≤ (i : Int) := by omega
        go_wp2
        go_loopw [25] (fun kk wx => ∃ k : Nat, kk = .int .i64 (k : Int) ∧ k ≤ FN i ∧ Hid (Six w1 wx g FA FN FC)) (fun kk _ => FN i - (intOf kk).toNat)
        case atStart => exact ⟨0, rfl, by omega, HX.out⟩
        case round =>
          obtain ⟨k, rfl, hk, HY⟩ := hrel
          clear HX
          have kb : (FN i : Int) ≤ 100000 := by have := (HY.out.mine i hlt).1; omega
          have cell1 := HY.out.cells i hlt
          by_cases hkl : k < FN i
          · have klt : (k : Int) < (FN i : Int) := by omega
            have k0 : (0 : Int) ≤ (k : Int) := by omega
            obtain ⟨b, x, eA, hwb, hbg, hx, cell2, fr⟩ := HY.out.at hlt hkl
            rw [eA] at cell1
            obtain ⟨y, hy⟩ : ∃ y, IntKind.u32.wrap (x + 1) = y := ⟨_, rfl⟩
            have hyl : Limb y := by rw [← hy, IntKind.wrap_u32]; exact ⟨by omega, by omega⟩
            obtain ⟨N, hN⟩ : ∃ N, FN i = N := ⟨_, rfl⟩
            obtain ⟨C, hC⟩ : ∃ C, FC i = C := ⟨_, rfl⟩
            have NX := Lib.hid (HY.out.write b k hyl hwb (by omega))
            rw [hN] at cell1 hkl klt kb
            rw [hC] at cell1
            have HNN := Lib.hid hN
            clear HY hN hC hyl hwb hbg hx eA
            go_wp2
            go_region
            go_wp2
            go_roundw
            case rel => exact ⟨k + 1, by go_num, by rw [HNN.out]; omega, NX.out⟩
            case measure => simp [intOf]; have := HNN.out; omega
          · have hge : ¬ (k : Int) < (FN i : Int) := by omega
            obtain ⟨N, hN⟩ : ∃ N, FN i = N := ⟨_, rfl⟩
            rw [hN] at cell1 hge kb
            generalize FA i = AA at *
            generalize FC i = C at *
            clear hN
            go_wp2
            go_roundw
            case rel => exact ⟨i + 1, by go_num, by omega, HY⟩
            case measure => simp [intOf]; omega
      · obtain rfl : i = 6 := by omega
        replace PW := Lib.hid (PW.out.on HX.out.below)
        replace PA := Lib.hid (PA.out.on HX.out.below)
        replace HW := Lib.hid (via1' HW.out HX.out.below)
        clear HX
        go_wp2_with fail
        refine (same_all _ _ _ _ _ _ l0 _ PW.out PA.out).mono ?_
        rintro e y9 ⟨rfl, hb⟩
        replace HW := Lib.hid (via1' HW.out hb)
        clear hb PW PA
        go_wp2
        go_ret
        exact ⟨rfl, HW.out⟩
end Go.Proofs.YtmjidpkddiinaaaDoor
