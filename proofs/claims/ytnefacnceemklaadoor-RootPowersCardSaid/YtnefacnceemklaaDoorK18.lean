/-
  The statements RootDivs, RootRoots, RootFuses, RootMods, RootPowers, walked.
-/
import Derived.Test.YtnefacnceemklaaDoorK17
import Derived.Test.YtnefacnceemklaaDoorK11
import Derived.Test.YtnefacnceemklaaDoorK13
import Derived.Test.YtnefacnceemklaaDoorX9
import Derived.Test.YtnefacnceemklaaDoorK15
import Derived.Test.YtnefacnceemklaaDoorK16
namespace Go.Proofs.YtnefacnceemklaaDoor
open Go.RowKit Go.Shelf

theorem rfma5_any (a b c : Int) (h1 : Word a) (h2 : Word b) (h3 : Word c) (w : World) : Calls Tryd.prog 19 #[.int .u64 a, .int .u64 b, .int .u64 c] w (WordPost (fmaV a b c) w) := by
  by_cases o : kindI a < 3 ∧ kindI b < 3 ∧ kindI c < 3
  · exact rfma_fin a b c h1 h2 h3 o.1 o.2.1 o.2.2 w
  · exact rfma_odd a b c h1 h2 h3 o w
set_option maxRecDepth 100000 in
set_option maxHeartbeats 4000000 in
theorem divs_any (a : Int) (b : Int) (ha : Word a) (hb : Word b) (w : World) (hT : Tabs w) : Calls Tryd.prog 3 #[.int .u64 a, .int .u64 b] w (TruePost w) := by
  have HT := Lib.hid hT
  have C1 := Lib.hid (fun W (hT : Tabs W) => div5_any a b ha hb W)
  have C2 := Lib.hid (fun W => rdiv5_any a b ha hb W)
  generalize divV a b = v at *
  clear ha hb hT
  go_enter Tryd.func3, Tryd.ntmps3
  go_wp2_with fail
  refine (shown5_any _ HT.out).mono ?_
  rintro en w1 ⟨rfl, hb1⟩
  have HT1 := Lib.hid (HT.out.below hb1)
  go_wp2_with fail
  refine (C1.out _ HT1.out).mono ?_
  rintro en w2 ⟨rfl, hb2⟩
  have hB2 := hb1.trans (hb2.mono hb1.size)
  go_wp2_with fail
  refine (C2.out _).mono ?_
  rintro en w3 ⟨rfl, hb3⟩
  have hB3 := hB2.trans (hb3.mono hB2.size)
  go_wp2
  go_ret
  exact ⟨by first | rfl | simp, hB3⟩
set_option maxRecDepth 100000 in
set_option maxHeartbeats 4000000 in
theorem roots_any (a : Int) (ha : Word a) (w : World) (hT : Tabs w) : Calls Tryd.prog 4 #[.int .u64 a] w (TruePost w) := by
  have HT := Lib.hid hT
  have C1 := Lib.hid (fun W (hT : Tabs W) => sqrt5_any a ha W)
  have C2 := Lib.hid (fun W => rsqrt5_any a ha W)
  generalize sqrtV a = v at *
  clear ha hT
  go_enter Tryd.func4, Tryd.ntmps4
  go_wp2_with fail
  refine (shown5_any _ HT.out).mono ?_
  rintro en w1 ⟨rfl, hb1⟩
  have HT1 := Lib.hid (HT.out.below hb1)
  go_wp2_with fail
  refine (C1.out _ HT1.out).mono ?_
  rintro en w2 ⟨rfl, hb2⟩
  have hB2 := hb1.trans (hb2.mono hb1.size)
  go_wp2_with fail
  refine (C2.out _).mono ?_
  rintro en w3 ⟨rfl, hb3⟩
  have hB3 := hB2.trans (hb3.mono hB2.size)
  go_wp2
  go_ret
  exact ⟨by first | rfl | simp, hB3⟩
set_option maxRecDepth 100000 in
set_option maxHeartbeats 4000000 in
theorem fuses_any (a : Int) (b : Int) (c : Int) (ha : Word a) (hb : Word b) (hc : Word c) (w : World) (hT : Tabs w) : Calls Tryd.prog 5 #[.int .u64 a, .int .u64 b, .int .u64 c] w (TruePost w) := by
  have HT := Lib.hid hT
  have C1 := Lib.hid (fun W (hT : Tabs W) => fma5_any a b c ha hb hc W hT)
  have C2 := Lib.hid (fun W => rfma5_any a b c ha hb hc W)
  generalize fmaV a b c = v at *
  clear ha hb hc hT
  go_enter Tryd.func5, Tryd.ntmps5
  go_wp2_with fail
  refine (shown5_any _ HT.out).mono ?_
  rintro en w1 ⟨rfl, hb1⟩
  have HT1 := Lib.hid (HT.out.below hb1)
  go_wp2_with fail
  refine (C1.out _ HT1.out).mono ?_
  rintro en w2 ⟨rfl, hb2⟩
  have hB2 := hb1.trans (hb2.mono hb1.size)
  go_wp2_with fail
  refine (C2.out _).mono ?_
  rintro en w3 ⟨rfl, hb3⟩
  have hB3 := hB2.trans (hb3.mono hB2.size)
  go_wp2
  go_ret
  exact ⟨by first | rfl | simp, hB3⟩
set_option maxRecDepth 100000 in
set_option maxHeartbeats 4000000 in
theorem mods_any (a : Int) (b : Int) (ha : Word a) (hb : Word b) (w : World) (hT : Tabs w) : Calls Tryd.prog 6 #[.int .u64 a, .int .u64 b] w (TruePost w) := by
  have HT := Lib.hid hT
  have C1 := Lib.hid (fun W (hT : Tabs W) => mod5_any a b ha hb W)
  have C2 := Lib.hid (fun W => rmod5_any a b ha hb W)
  generalize modV a b = v at *
  clear ha hb hT
  go_enter Tryd.func6, Tryd.ntmps6
  go_wp2_with fail
  refine (shown5_any _ HT.out).mono ?_
  rintro en w1 ⟨rfl, hb1⟩
  have HT1 := Lib.hid (HT.out.below hb1)
  go_wp2_with fail
  refine (C1.out _ HT1.out).mono ?_
  rintro en w2 ⟨rfl, hb2⟩
  have hB2 := hb1.trans (hb2.mono hb1.size)
  go_wp2_with fail
  refine (C2.out _).mono ?_
  rintro en w3 ⟨rfl, hb3⟩
  have hB3 := hB2.trans (hb3.mono hB2.size)
  go_wp2
  go_ret
  exact ⟨by first | rfl | simp, hB3⟩
set_option maxRecDepth 100000 in
set_option maxHeartbeats 4000000 in
theorem powers_any (a : Int) (n : Int) (ha : Word a) (hn : -9223372036854775808 ≤ n) (gn : n ≤ 9223372036854775807) (w : World) (hT : Tabs w) : Calls Tryd.prog 7 #[.int .u64 a, .int .i64 n] w (TruePost w) := by
  have HT := Lib.hid hT
  have C1 := Lib.hid (fun W (hT : Tabs W) => power5_any a n ha hn gn W hT)
  have C2 := Lib.hid (fun W => rpower5_any a n ha hn gn W)
  generalize powerV a n = v at *
  clear ha hn gn hT
  go_enter Tryd.func7, Tryd.ntmps7
  go_wp2_with fail
  refine (shown5_any _ HT.out).mono ?_
  rintro en w1 ⟨rfl, hb1⟩
  have HT1 := Lib.hid (HT.out.below hb1)
  go_wp2_with fail
  refine (C1.out _ HT1.out).mono ?_
  rintro en w2 ⟨rfl, hb2⟩
  have hB2 := hb1.trans (hb2.mono hb1.size)
  go_wp2_with fail
  refine (C2.out _).mono ?_
  rintro en w3 ⟨rfl, hb3⟩
  have hB3 := hB2.trans (hb3.mono hB2.size)
  go_wp2
  go_ret
  exact ⟨by first | rfl | simp, hB3⟩
end Go.Proofs.YtnefacnceemklaaDoor
