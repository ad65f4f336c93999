/-
  What NatDigits answers: true.
-/
import Derived.Test.YtmjidpkddiinaaaDoorH2
import Derived.Test.YtmjidpkddiinaaaDoorX7
namespace Go.Proofs.YtmjidpkddiinaaaDoor
open Go.RowKit Go.Shelf

set_option maxRecDepth 100000 in
set_option maxHeartbeats 8000000 in
theorem digits_any (A0 : Option Addr) (n0 c0 : Nat) (l0 : List Int) (s : ByteArray) (W : World) (h0 : Sl W W.heap.size A0 n0 c0 l0) (hs : s.size ≤ maxLen) :
    Calls Tryd.prog 6 #[.slice A0 n0 c0, .string s] W fun e W' => e = .returned (.bool true) ∧ Below W.heap.size W W' := by
  have HP0 := Lib.hid h0
  by_cases lg0 : 120 < n0
  · have m0 : (120 : Int) < (n0 : Int) := by omega
    clear h0
    go_enter Tryd.func6, Tryd.ntmps6
    go_wp2_with fail
    refine (shown_any _).mono ?_
    rintro e x0 ⟨rfl, hb⟩
    go_wp2
    go_ret
    exact ⟨rfl, hb⟩
  have m0 : ¬ (120 : Int) < (n0 : Int) := by omega
  have sb : (s.size : Int) ≤ 9223372036854775807 := by have := hs; unfold maxLen at this; omega
  by_cases lgs : 3000 < s.size
  · have ms : (3000 : Int) < (s.size : Int) := by omega
    clear h0
    go_enter Tryd.func6, Tryd.ntmps6
    go_wp2_with fail
    refine (shown_any _).mono ?_
    rintro e x0 ⟨rfl, hb⟩
    go_wp2
    go_ret
    exact ⟨rfl, hb⟩
  have ms : ¬ (3000 : Int) < (s.size : Int) := by omega
  obtain ⟨E, V, hE⟩ : ∃ E V, (∀ W', Calls Tryd.prog 37 #[.string s] W' (NatRPost E V W')) ∧ (∀ W', Calls Tryd.prog 38 #[.string s] W' (NatRPost E V W')) := by
    by_cases hd : s.data.toList ≠ [] ∧ AllD s.data.toList
    · exact ⟨_, _, fun W' => nparse_ok s W' (by omega) hd, fun W' => rparse_ok s W' (by omega) hd⟩
    · exact ⟨_, _, fun W' => nparse_bad s W' (by omega) hd, fun W' => rparse_bad s W' (by omega) hd⟩
  have C0 := Lib.hid hE.1
  have C1 := Lib.hid hE.2
  have P0 := Lib.hid h0
  have b1 : (E == E) = true := beq_self_eq_true E
  clear hE h0 HP0
  go_enter Tryd.func6, Tryd.ntmps6
  have HB := Lib.hid (Below.refl W.heap.size W)
  go_wp2_with fail
  refine (shown_any _).mono ?_
  rintro e x1 ⟨rfl, hb⟩
  replace HB := Lib.hid (via1' (w := W) (X := _) HB.out hb)
  replace P0 := Lib.hid (P0.out.on hb)
  clear hb
  go_wp2_with fail
  refine (C0.out _).mono ?_
  rintro e x2 ⟨Ax, nx, cx, lx, rfl, Px, h1, h2, _, hb⟩
  replace HB := Lib.hid (via1' (w := W) (X := _) HB.out hb)
  replace P0 := Lib.hid (P0.out.on hb)
  clear hb
  replace Px := Lib.hid Px
  have Nx := Lib.hid (And.intro h1 h2)
  clear h1 h2
  go_wp2_with fail
  refine (C1.out _).mono ?_
  rintro e x3 ⟨Ay, ny, cy, ly, rfl, Py, h1, h2, _, hb⟩
  replace HB := Lib.hid (via1' (w := W) (X := _) HB.out hb)
  replace P0 := Lib.hid (P0.out.on hb)
  replace Px := Lib.hid (Px.out.on hb)
  clear hb
  replace Py := Lib.hid Py
  have Ny := Lib.hid (And.intro h1 h2)
  clear h1 h2
  have Qy := Lib.hid (show Sl _ _ Ay ny cy lx by have := Py.out; rw [show ly = lx from norm_unique Py.out.lim Px.out.lim Ny.out.1 Nx.out.1 (Ny.out.2.trans Nx.out.2.symm)] at this; exact this)
  go_wp2_with fail
  refine (same_all _ _ _ _ _ _ lx _ Px.out Qy.out).mono ?_
  rintro e x4 ⟨rfl, hb⟩
  replace HB := Lib.hid (via1' (w := W) (X := _) HB.out hb)
  replace P0 := Lib.hid (P0.out.on hb)
  clear hb
  clear Px Py Qy Nx Ny
  go_wp2_with fail
  refine (ndigits_any A0 n0 c0 l0 _ P0.out (by omega)).mono ?_
  rintro e x20 ⟨u, rfl, g1, g2, hb⟩
  replace HB := Lib.hid (via1' (w := W) (X := _) HB.out hb)
  replace P0 := Lib.hid (P0.out.on hb)
  clear hb
  have G1 := Lib.hid (And.intro g1 g2)
  clear g1 g2
  go_wp2_with fail
  refine (rdigits_any A0 n0 c0 l0 _ P0.out (by omega)).mono ?_
  rintro e x21 ⟨v, rfl, g1, g2, hb⟩
  obtain rfl : u = v := canon_unique G1.out.1 g1 (G1.out.2.trans g2.symm)
  replace HB := Lib.hid (via1' (w := W) (X := _) HB.out hb)
  replace P0 := Lib.hid (P0.out.on hb)
  clear hb
  go_wp2
  go_ret
  exact ⟨by simp, HB.out⟩
end Go.Proofs.YtmjidpkddiinaaaDoor
