/-
  The document's Whole and From of layer 6: walked; whole.Whole by any way.
-/
import Derived.Test.YtomeidbigofnaaaG10
import Derived.Test.YtomeidbigofnaaaG8
namespace Go.Proofs.Ytomeidbigofnaaa
open Go.RowKit Go.Shelf

theorem whole_at (x y : Int) (h : Word x) (h0 : 0 ≤ y) (h5 : y ≤ 5) (w : World) : Calls Try.prog 19 #[.int .u64 x, .int .i64 y] w (WholePost (wholeV y x) 0 w) := by
  obtain rfl | rfl | rfl | rfl | rfl | rfl : y = 0 ∨ y = 1 ∨ y = 2 ∨ y = 3 ∨ y = 4 ∨ y = 5 := by omega
  · exact whole0 x h w
  · exact whole1 x h w
  · exact whole2 x h w
  · exact whole3 x h w
  · exact whole4 x h w
  · exact whole5 x h w
theorem rwhole_arg (x y : Int) (h0 : y < 0 ∨ 5 < y) (w : World) : Calls Try.prog 20 #[.int .u64 x, .int .i64 y] w (WholePost 0 1 w) := by
  rcases h0 with c | c
  · go_enter Try.func20, Try.ntmps20
    go_wp2
    go_ret2
    exact ⟨rfl, Below.refl _ _⟩
  · have c0 : ¬ y < 0 := by omega
    go_enter Try.func20, Try.ntmps20
    go_wp2
    go_ret2
    exact ⟨rfl, Below.refl _ _⟩
set_option maxRecDepth 100000 in
set_option maxHeartbeats 1000000 in
theorem rwhole_at (x y : Int) (h : Word x) (h0 : 0 ≤ y) (h5 : y ≤ 5) (w : World) : Calls Try.prog 20 #[.int .u64 x, .int .i64 y] w (WholePost (wholeV y x) 0 w) := by
  obtain ⟨k, hk⟩ : ∃ z, kindI x = z := ⟨_, rfl⟩
  have K := Lib.hid (fun W => rkind_vars x k h hk W)
  have NA := Lib.hid (fun W => nat6_any x y h h0 h5 W)
  have bk : k ≤ 4 := by rw [← hk]; unfold kindI; (repeat' split) <;> omega
  obtain ⟨v, hv⟩ : ∃ z, wholeV y x = z := ⟨_, rfl⟩
  have V4 : Hid (k = 4 → v = 9221120237041090560) := fun c => by rw [← hv]; unfold wholeV rightI; rw [if_pos (show 3 ≤ kindI x by omega), if_pos (show kindI x = 4 by omega)]
  have V3 : Hid (k = 3 → v = x) := fun c => by rw [← hv]; unfold wholeV rightI; rw [if_pos (show 3 ≤ kindI x by omega), if_neg (show ¬ kindI x = 4 by omega)]
  have V0 : Hid (k < 3 → rndI (negB x) (natX y x) 0 = v) := fun c => by rw [← hv]; unfold wholeV; rw [if_neg (show ¬ 3 ≤ kindI x by omega)]; rfl
  rw [hv]
  clear hk hv h
  have h0' : ¬ y < 0 := by omega
  have h5' : ¬ 5 < y := by omega
  by_cases c4 : k = 4
  · have t1 : (k == 4) = true := by simpa using c4
    have fin := Lib.hid (V4.out c4)
    clear V4 V3 V0 c4
    go_enter Try.func20, Try.ntmps20
    go_wp2_with (go_at_call 30; refine (K.out _).mono ?_; rintro e w' ⟨rfl, rfl⟩)
    go_ret2
    exact ⟨by rw [fin.out]; rfl, Below.refl _ _⟩
  have t1 : (k == 4) = false := by simpa using c4
  by_cases c3 : k = 3
  · have t2 : (k == 3) = true := by simpa using c3
    have fin := Lib.hid (V3.out c3)
    clear V4 V3 V0 c4 c3
    go_enter Try.func20, Try.ntmps20
    go_wp2_with (go_at_call 30; refine (K.out _).mono ?_; rintro e w' ⟨rfl, rfl⟩)
    go_ret2
    exact ⟨by rw [fin.out]; rfl, Below.refl _ _⟩
  have t2 : (k == 3) = false := by simpa using c3
  have V := Lib.hid (V0.out (by omega))
  clear V4 V3 V0 c4 c3
  generalize negB x = s at *
  go_enter Try.func20, Try.ntmps20
  go_wp2_with (go_at_call 30; refine (K.out _).mono ?_; rintro e w' ⟨rfl, rfl⟩)
  refine (NA.out _).mono ?_
  rintro e w1 ⟨A1, n1, c1, l1, rfl, hs1, hn1, n1b, hv1, hb1⟩
  have CR := Lib.hid (rround_len s A1 n1 c1 l1 0 w1 hs1 (by omega) (by decide) (by decide) hv1 V.out)
  clear hs1 hn1 hv1
  go_wp2_with fail
  refine CR.out.mono ?_
  rintro e w2 ⟨rfl, hb2⟩
  have hB2 := hb1.trans (hb2.mono hb1.size)
  go_wp2
  go_ret2
  exact ⟨rfl, hB2⟩

set_option maxRecDepth 100000 in
set_option maxHeartbeats 1000000 in
theorem rfrom6_any (v : Int) (h0 : -9223372036854775808 ≤ v) (h1 : v ≤ 9223372036854775807) (w : World) : Calls Try.prog 22 #[.int .i64 v] w (WordPost (fromV v) w) := by
  obtain ⟨r, hr⟩ : ∃ z, fromV v = z := ⟨_, rfl⟩
  rw [hr]
  by_cases c : v < 0
  · have NA := Lib.hid (fun W => nat3_any (-v) ⟨by omega, by omega⟩ W)
    have e : rndI true (-v) 0 = r := by rw [← hr]; unfold fromV; rw [if_pos c]; simp [c]
    have E := Lib.hid e
    obtain ⟨t, ht⟩ : ∃ z, IntKind.u64.wrap v = z := ⟨_, rfl⟩
    have hm : IntKind.u64.wrap (-t) = -v := by rw [← ht, IntKind.wrap_u64, IntKind.wrap_u64]; omega
    clear hr e
    go_enter Try.func22, Try.ntmps22
    go_wp2_with fail
    refine (NA.out _).mono ?_
    rintro e w1 ⟨A1, n1, c1, l1, rfl, hs1, hn1, hv1, _, hb1⟩
    have n1b : n1 ≤ 8 := hs1.small hn1 (by rw [hv1]; omega)
    have CR := Lib.hid (rround_len true A1 n1 c1 l1 0 w1 hs1 (by omega) (by decide) (by decide) hv1 E.out)
    clear hs1 hn1 hv1
    go_wp2_with fail
    refine CR.out.mono ?_
    rintro e w2 ⟨rfl, hb2⟩
    have hB2 := hb1.trans (hb2.mono hb1.size)
    go_wp2
    go_ret
    exact ⟨rfl, hB2⟩
  · have NA := Lib.hid (fun W => nat3_any v ⟨by omega, by omega⟩ W)
    have e : rndI false v 0 = r := by rw [← hr]; unfold fromV; rw [if_neg c]; simp [c]
    have E := Lib.hid e
    have hm : IntKind.u64.wrap v = v := by rw [IntKind.wrap_u64]; omega
    clear hr e
    go_enter Try.func22, Try.ntmps22
    go_wp2_with fail
    refine (NA.out _).mono ?_
    rintro e w1 ⟨A1, n1, c1, l1, rfl, hs1, hn1, hv1, _, hb1⟩
    have n1b : n1 ≤ 8 := hs1.small hn1 (by rw [hv1]; omega)
    have CR := Lib.hid (rround_len false A1 n1 c1 l1 0 w1 hs1 (by omega) (by decide) (by decide) hv1 E.out)
    clear hs1 hn1 hv1
    go_wp2_with fail
    refine CR.out.mono ?_
    rintro e w2 ⟨rfl, hb2⟩
    have hB2 := hb1.trans (hb2.mono hb1.size)
    go_wp2
    go_ret
    exact ⟨rfl, hB2⟩
end Go.Proofs.Ytomeidbigofnaaa
