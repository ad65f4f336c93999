/-
  The document's Nat, Whole and From of layer 6: walked.
-/
import Derived.Test.YtomeidbigofnaaaG9
namespace Go.Proofs.Ytomeidbigofnaaa
open Go.RowKit Go.Shelf

theorem rounds_at (y : Int) (h0 : 0 ≤ y) (h5 : y ≤ 5) (s b ex : Bool) (hf : Int) (w : World) : Calls Try.prog 57 #[.int .i64 y, .bool s, .bool b, .int .i64 hf, .bool ex] w fun e w' => e = .returned (.bool (upB y s b hf ex)) ∧ w = w' := by
  obtain rfl | rfl | rfl | rfl | rfl | rfl : y = 0 ∨ y = 1 ∨ y = 2 ∨ y = 3 ∨ y = 4 ∨ y = 5 := by omega
  · exact rounds0 s b ex hf w
  · exact rounds1 s b ex hf w
  · exact rounds2 s b ex hf w
  · exact rounds3 s b ex hf w
  · exact rounds4 s b ex hf w
  · exact rounds5 s b ex hf w

/-- The whole number without a sign that a way gives. -/
def natX (y x : Int) : Int := wholI x + (if upX y x = true then 1 else 0)
def Nat6Post (s : Bool) (v : Int) (w : World) (e : Ending) (w' : World) : Prop :=
  ∃ A n c l, e = .returned (.tuple #[.bool s, .slice A n c]) ∧ Sl w' w'.heap.size A n c l ∧ Norm l ∧ n ≤ 41 ∧ natV l = v ∧ Below w.heap.size w w'
theorem nat_len {w : World} {B : Nat} {A : Option Addr} {n c : Nat} {l : List Int} {v : Int} (h : Sl w B A n c l) (hn : Norm l) (hv : natV l = v) (hb : v ≤ pw (32 * ((40 : Nat) : Int))) : n ≤ 41 := by
  rw [← h.len]
  refine norm_len h.lim hn ?_
  have a := pw_succ (32 * ((40 : Nat) : Int)) (by decide)
  have b := pw_mono (a := 32 * ((40 : Nat) : Int) + 1) (b := 32 * ((41 : Nat) : Int)) (by decide) (by decide)
  have c := pw_pos (32 * ((40 : Nat) : Int))
  omega

set_option maxRecDepth 100000 in
set_option maxHeartbeats 2000000 in
theorem nat6_any (x y : Int) (h : Word x) (h0 : 0 ≤ y) (h5 : y ≤ 5) (w : World) : Calls Try.prog 36 #[.int .u64 x, .int .i64 y] w (Nat6Post (negB x) (natX y x) w) := by
  have C := Lib.hid (fun W => parts6_any x h W)
  have IS := Lib.hid (fun W => ris_any x W)
  have RO := Lib.hid (fun s b ex hf W => rounds_at y h0 h5 s b ex hf W)
  have LIT := Lib.hid (fun W : World => lit1 W)
  have WL := Lib.hid (whol_lt h)
  obtain ⟨s, hs⟩ : ∃ z, negB x = z := ⟨_, rfl⟩
  obtain ⟨hf, hhf⟩ : ∃ z, halfI x = z := ⟨_, rfl⟩
  obtain ⟨ex, hex⟩ : ∃ z, (leftI x == 0) = z := ⟨_, rfl⟩
  obtain ⟨v, hv⟩ : ∃ z, wholI x = z := ⟨_, rfl⟩
  obtain ⟨up, hup⟩ : ∃ z, upX y x = z := ⟨_, rfl⟩
  have UP := upB_upX y x h0 h5
  rw [hs, hhf, hex, hv, hup] at UP
  have NX : Hid (natX y x = v + (if up = true then 1 else 0)) := by unfold Hid natX; rw [hv, hup]
  have HHF := Lib.hid hhf; have HEX := Lib.hid hex
  rw [hv] at WL
  have HV := Lib.hid hv
  have UP := Lib.hid UP
  generalize natX y x = t at *
  rw [hs] at IS ⊢
  clear hs hhf hex hv hup h h0 h5
  go_enter Try.func36, Try.ntmps36
  go_wp2_with fail
  refine (C.out _).mono ?_
  rintro e w1 ⟨A1, n1, c1, l1, rfl, hs1, hn1, hv1, hb1⟩
  rw [HHF.out, HEX.out]
  rw [HV.out] at hv1
  have n1b := nat_len hs1 hn1 hv1 (Int.le_of_lt WL.out)
  have hv1 := Lib.hid hv1
  go_wp2_with fail
  refine (IS.out _).mono ?_
  rintro e w' ⟨rfl, rfl⟩
  have BI := Lib.hid (bit_any A1 n1 c1 l1 0 w1 hs1 (by decide) (by decide))
  obtain ⟨od, hod⟩ : ∃ z, bitV (natV l1) 0 = z := ⟨_, rfl⟩
  rw [hod] at BI
  have OD : Hid ((v % 2 == 1) = od) := by
    unfold Hid; rw [← hod, hv1.out]; unfold bitV
    rw [show pw 0 = 1 from rfl, Int.ediv_one]
    by_cases q : v % 2 = 1 <;> simp [q]
  rw [OD.out] at UP
  clear hod
  go_wp2_with fail
  refine BI.out.mono ?_
  rintro e w' ⟨rfl, rfl⟩
  go_wp2_with fail
  refine (RO.out _ _ _ _ _).mono ?_
  rintro e w' ⟨rfl, rfl⟩
  obtain ⟨ub, hub⟩ : ∃ z, upB y s od hf ex = z := ⟨_, rfl⟩
  have UP := UP.out
  rw [hub] at UP ⊢
  have UP := Lib.hid UP
  clear hub BI RO IS C
  cases ub
  case false =>
    have f : Hid (t = v) := by unfold Hid; rw [NX.out, ← UP.out]; simp
    go_wp2
    go_ret2
    exact ⟨A1, n1, c1, l1, rfl, hs1, hn1, n1b, by rw [f.out]; exact hv1.out, hb1⟩
  cases ex
  case true =>
    have f : Hid (t = v) := by unfold Hid; rw [NX.out, ← UP.out]; simp
    go_wp2
    go_ret2
    exact ⟨A1, n1, c1, l1, rfl, hs1, hn1, n1b, by rw [f.out]; exact hv1.out, hb1⟩
  have f : Hid (v + 1 = t) := by unfold Hid; rw [NX.out, ← UP.out]; simp
  have st := Lib.hid (fun o => hs1.on (below_new w1 o))
  have hs1' := hs1.on (below_new w1 (.cells #[.int .u32 1] 62))
  go_wp2_with fail
  refine (rplus_any A1 _ n1 1 c1 1 l1 [1] _ hs1' (LIT.out _) (by omega) (by decide)).mono ?_
  rintro e w2 ⟨A2, n2, c2, l2, rfl, hs2, hn2, hv2, _, hb2⟩
  have hv2 : Hid (natV l2 = t) := by unfold Hid; rw [hv2, hv1.out, ← f.out]; show v + (1 + 4294967296 * 0) = v + 1; omega
  have n2b := nat_len hs2 hn2 hv2.out (by rw [← f.out]; have := WL.out; unfold Hid at this; omega)
  have hB2 := hb1.trans (((below_new _ _).trans (hb2.mono (by simp))).mono hb1.size)
  clear hs1 hs1' st hb1 hb2
  go_wp2
  go_ret2
  exact ⟨A2, n2, c2, l2, rfl, hs2, hn2, n2b, hv2.out, hB2⟩
end Go.Proofs.Ytomeidbigofnaaa
