/-
  The statement WholeCompares, walked.
-/
import Derived.Test.YtomeidbigofnaaaH2
namespace Go.Proofs.Ytomeidbigofnaaa
open Go.RowKit Go.Shelf

set_option maxRecDepth 100000 in
set_option maxHeartbeats 2000000 in
theorem compares_any (a b : Int) (h1 : Word a) (h2 : Word b) (w : World) : Calls Try.prog 3 #[.int .u64 a, .int .u64 b] w (BoolPost true w) := by
  have C1 := Lib.hid (fun W => wcmp_any a b h1 h2 W)
  have C2 := Lib.hid (fun W => rcmp6_any a b h1 h2 W)
  have S1 := Lib.hid (fun W => wsign_any a h1 W)
  have S2 := Lib.hid (fun W => rsign6_any a h1 W)
  have I1 := Lib.hid (fun W => wis_any a h1 W)
  have I2 := Lib.hid (fun W => ris6_any a h1 W)
  have M1 := Lib.hid (fun W => wmin_any a b h1 h2 W)
  have M2 := Lib.hid (fun W => rmin_any a b h1 h2 W)
  have X1 := Lib.hid (fun W => wmax_any a b h1 h2 W)
  have X2 := Lib.hid (fun W => rmax_any a b h1 h2 W)
  generalize cmpN a b = n at *
  generalize cmpB a b = o at *
  generalize cmpN a 0 = m at *
  generalize isB a = i at *
  generalize minI a b = p at *
  generalize maxI a b = q at *
  clear h1 h2
  cases o <;> cases i
  all_goals
    go_enter Try.func3, Try.ntmps3
    go_wp2_with fail
    refine (shown6_any _).mono ?_
    rintro e w1 ⟨rfl, hb1⟩
    go_wp2_with fail
    refine (C1.out _).mono ?_
    rintro e w' ⟨rfl, rfl⟩
    go_wp2_with fail
    refine (C2.out _).mono ?_
    rintro e w' ⟨rfl, rfl⟩
    go_wp2_with fail
    refine (S1.out _).mono ?_
    rintro e w' ⟨rfl, rfl⟩
    go_wp2_with fail
    refine (S2.out _).mono ?_
    rintro e w' ⟨rfl, rfl⟩
    go_wp2_with fail
    refine (I1.out _).mono ?_
    rintro e w2 ⟨rfl, hb2⟩
    have hB2 := hb1.trans (hb2.mono hb1.size)
    go_wp2_with fail
    refine (I2.out _).mono ?_
    rintro e w3 ⟨rfl, hb3⟩
    have hB3 := hB2.trans (hb3.mono hB2.size)
    clear hb1 hb2 hb3 hB2
    go_wp2_with fail
    refine (M1.out _).mono ?_
    rintro e w' ⟨rfl, rfl⟩
    go_wp2_with fail
    refine (M2.out _).mono ?_
    rintro e w' ⟨rfl, rfl⟩
    go_wp2_with fail
    refine (X1.out _).mono ?_
    rintro e w' ⟨rfl, rfl⟩
    go_wp2_with fail
    refine (X2.out _).mono ?_
    rintro e w' ⟨rfl, rfl⟩
    go_wp2
    go_ret
    exact ⟨by simp, hB3⟩
end Go.Proofs.Ytomeidbigofnaaa
