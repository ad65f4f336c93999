/-
  The statement FloatParts, walked: the code's parts are the document's.
-/
import Derived.Test.YtcalkaeogogcbaaF5
namespace Go.Proofs.Ytcalkaeogogcbaa
open Go.RowKit Go.Shelf

set_option maxRecDepth 100000 in
set_option maxHeartbeats 4000000 in
theorem parts_any (x : Int) (h : Word x) (w : World) : Calls Try.prog 5 #[.int .u64 x] w (TruePost w) := by
  have Sp := Lib.hid (fun w => split_any x h w)
  have RSp := Lib.hid (fun w => rsplit_any x h w)
  have K := Lib.hid (fun w => kind_any x h w)
  have RK := Lib.hid (fun w => rkind_any x h w)
  have R := Lib.hid (fun w => right_any x h w)
  have RR := Lib.hid (fun w => rright_any x h w)
  have Ng := Lib.hid (fun w => neg_any x h w)
  have RNg := Lib.hid (fun w => rneg_any x h w)
  have Ab := Lib.hid (fun w => abs_any x h w)
  have RAb := Lib.hid (fun w => rabs_any x h w)
  have Nx := Lib.hid (fun w => next_any x h w)
  have RNx := Lib.hid (fun w => rnext_any x h w)
  have Pv := Lib.hid (fun w => prev_any x h w)
  have RPv := Lib.hid (fun w => rprev_any x h w)
  clear h
  generalize negB x = ng at *
  generalize mantI x = m at *
  generalize powI x = q at *
  generalize kindI x = k at *
  generalize absI (rightI x) = ab at *
  generalize rightI x = r at *
  generalize negI x = n at *
  generalize nextI x = nx at *
  generalize prevI x = pv at *
  go_enter Try.func5, Try.ntmps5
  go_wp2_with fail
  refine (shown3_any _).mono ?_
  rintro e w1 ⟨rfl, hb1⟩
  have HB := Lib.hid hb1; clear hb1
  go_wp2_with fail
  refine (Sp.out _).mono ?_
  rintro e w' ⟨rfl, rfl⟩
  go_wp2_with fail
  refine (RSp.out _).mono ?_
  rintro e w' ⟨rfl, rfl⟩
  go_wp2_with fail
  refine (K.out _).mono ?_
  rintro e w' ⟨rfl, rfl⟩
  go_wp2_with fail
  refine (RK.out _).mono ?_
  rintro e w' ⟨rfl, rfl⟩
  go_wp2_with fail
  refine (R.out _).mono ?_
  rintro e w' ⟨rfl, rfl⟩
  go_wp2_with fail
  refine (RR.out _).mono ?_
  rintro e w' ⟨rfl, rfl⟩
  go_wp2_with fail
  refine (Ng.out _).mono ?_
  rintro e w' ⟨rfl, rfl⟩
  go_wp2_with fail
  refine (RNg.out _).mono ?_
  rintro e w' ⟨rfl, rfl⟩
  go_wp2_with fail
  refine (Ab.out _).mono ?_
  rintro e w' ⟨rfl, rfl⟩
  go_wp2_with fail
  refine (RAb.out _).mono ?_
  rintro e w' ⟨rfl, rfl⟩
  go_wp2_with fail
  refine (Nx.out _).mono ?_
  rintro e w' ⟨rfl, rfl⟩
  go_wp2_with fail
  refine (RNx.out _).mono ?_
  rintro e w' ⟨rfl, rfl⟩
  go_wp2_with fail
  refine (Pv.out _).mono ?_
  rintro e w' ⟨rfl, rfl⟩
  go_wp2_with fail
  refine (RPv.out _).mono ?_
  rintro e w' ⟨rfl, rfl⟩
  go_wp2
  go_ret
  exact ⟨rfl, HB.out⟩
end Go.Proofs.Ytcalkaeogogcbaa
