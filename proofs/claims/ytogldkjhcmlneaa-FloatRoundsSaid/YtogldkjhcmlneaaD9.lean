/-
  The statement FloatRounds, walked.
-/
import Derived.Test.YtogldkjhcmlneaaN4
namespace Go.Proofs.Ytogldkjhcmlneaa
open Go.RowKit Go.Shelf

set_option maxRecDepth 100000 in
set_option maxHeartbeats 4000000 in
theorem rounds_any (neg : Bool) (A : Option Addr) (n c : Nat) (l : List Int) (e : Int) (more : Bool) (w : World) (h : Sl w w.heap.size A n c l) (he0 : -9223372036854775808 ≤ e) (he1 : e ≤ 9223372036854775807) :
    Calls Try.prog 7 #[.bool neg, .slice A n c, .int .i64 e, .bool more] w (TruePost w) := by
  have HS := Lib.hid h
  by_cases c1 : 300 < n
  · have c2 : (300 : Int) < (n : Int) := by omega
    clear h
    go_enter Try.func7, Try.ntmps7
    go_wp2_with fail
    refine (shown3_any _).mono ?_
    rintro en w1 ⟨rfl, hb1⟩
    go_wp2
    go_ret
    exact ⟨rfl, hb1⟩
  · have c2 : (n : Int) ≤ 300 := by omega
    obtain ⟨r, hr⟩ : ∃ r, joinV neg (natV l) e (blen (natV l)) more = r := ⟨_, rfl⟩
    have FR : Hid (∀ w1, Below w.heap.size w w1 → Calls Try.prog 37 #[.bool neg, .slice A n c, .int .i64 e, .bool more] w1 (WordPost r w1)) := fun w1 hb => by
      rw [← hr]; exact round_sl neg A n c l e more w1 (h.on hb) (by omega) he0 he1
    have RR : Hid (∀ w1, Below w.heap.size w w1 → Calls Try.prog 36 #[.bool neg, .slice A n c, .int .i64 e, .bool more] w1 (WordPost r w1)) := fun w1 hb =>
      rround_len neg A n c l e more w1 (h.on hb) (by omega) he0 he1 rfl hr
    clear h hr HS
    go_enter Try.func7, Try.ntmps7
    go_wp2_with fail
    refine (shown3_any _).mono ?_
    rintro en w1 ⟨rfl, hb1⟩
    go_wp2_with fail
    refine (FR.out _ hb1).mono ?_
    rintro en w2 ⟨rfl, hb2⟩
    have hb2 := hb1.trans (hb2.mono hb1.size)
    go_wp2_with fail
    refine (RR.out _ hb2).mono ?_
    rintro en w3 ⟨rfl, hb3⟩
    have hb3 := hb2.trans (hb3.mono hb2.size)
    go_wp2
    go_ret
    exact ⟨by simp, hb3⟩
end Go.Proofs.Ytogldkjhcmlneaa
