/-
  whole's and the document's Min and Max: walked.
-/
import Derived.Test.YtnefacnceemklaaDoorG1
namespace Go.Proofs.YtnefacnceemklaaDoor
open Go.RowKit Go.Shelf

set_option maxRecDepth 100000 in
set_option maxHeartbeats 1000000 in
theorem wmin_any (a b : Int) (h1 : Word a) (h2 : Word b) (w : World) : Calls Tryd.prog 65 #[.int .u64 a, .int .u64 b] w fun e w' => e = .returned (.int .u64 (minI a b)) ∧ w = w' := by
  have C := Lib.hid (fun W => wcmp_any a b h1 h2 W)
  have N := Lib.hid (fun h : cmpB a b = false => min_nan h)
  have M := Lib.hid (fun h : cmpB a b = true => min_code h1 h2 h)
  obtain ⟨r, hr⟩ : ∃ z, minI a b = z := ⟨_, rfl⟩
  obtain ⟨t, ht⟩ : ∃ z, bits .or .u64 a b = z := ⟨_, rfl⟩
  have HR := Lib.hid hr; have HT := Lib.hid ht
  rw [hr]
  clear hr h1 h2
  generalize cmpN a b = n at *
  generalize cmpB a b = o at *
  cases o
  · have fin : Hid (r = 9221120237041090560) := by unfold Hid; rw [← HR.out]; exact (N.out rfl).1
    clear N M HR HT
    go_enter Tryd.func65, Tryd.ntmps65
    go_wp2_with (go_at_call 32; refine (C.out _).mono ?_; rintro e w' ⟨rfl, rfl⟩)
    go_ret
    exact ⟨by rw [fin.out]; rfl, rfl⟩
  rcases Int.lt_trichotomy n 0 with c | c | c
  · have fin : Hid (r = a) := by unfold Hid; rw [← HR.out]; exact ((M.out rfl).2.1 c).1
    have t1 : (n == 0) = false := by simp; omega
    have t2 : ¬ 0 < n := by omega
    clear N M HR HT ht
    go_enter Tryd.func65, Tryd.ntmps65
    go_wp2_with (go_at_call 32; refine (C.out _).mono ?_; rintro e w' ⟨rfl, rfl⟩)
    go_ret
    exact ⟨by rw [fin.out]; rfl, rfl⟩
  · subst c
    have fin : Hid (r = t) := by unfold Hid; rw [← HR.out, ← HT.out]; exact ((M.out rfl).1 rfl).1
    clear N M HR HT
    go_enter Tryd.func65, Tryd.ntmps65
    go_wp2_with (go_at_call 32; refine (C.out _).mono ?_; rintro e w' ⟨rfl, rfl⟩)
    go_ret
    exact ⟨by rw [fin.out]; rfl, rfl⟩
  · have fin : Hid (r = b) := by unfold Hid; rw [← HR.out]; exact ((M.out rfl).2.2 c).1
    have t1 : (n == 0) = false := by simp; omega
    have t2 : ¬ n < 0 := by omega
    clear N M HR HT ht
    go_enter Tryd.func65, Tryd.ntmps65
    go_wp2_with (go_at_call 32; refine (C.out _).mono ?_; rintro e w' ⟨rfl, rfl⟩)
    go_ret
    exact ⟨by rw [fin.out]; rfl, rfl⟩

set_option maxRecDepth 100000 in
set_option maxHeartbeats 1000000 in
theorem wmax_any (a b : Int) (h1 : Word a) (h2 : Word b) (w : World) : Calls Tryd.prog 66 #[.int .u64 a, .int .u64 b] w fun e w' => e = .returned (.int .u64 (maxI a b)) ∧ w = w' := by
  have C := Lib.hid (fun W => wcmp_any a b h1 h2 W)
  have N := Lib.hid (fun h : cmpB a b = false => min_nan h)
  have M := Lib.hid (fun h : cmpB a b = true => min_code h1 h2 h)
  obtain ⟨r, hr⟩ : ∃ z, maxI a b = z := ⟨_, rfl⟩
  obtain ⟨t, ht⟩ : ∃ z, bits .and .u64 a b = z := ⟨_, rfl⟩
  have HR := Lib.hid hr; have HT := Lib.hid ht
  rw [hr]
  clear hr h1 h2
  generalize cmpN a b = n at *
  generalize cmpB a b = o at *
  cases o
  · have fin : Hid (r = 9221120237041090560) := by unfold Hid; rw [← HR.out]; exact (N.out rfl).2.1
    clear N M HR HT
    go_enter Tryd.func66, Tryd.ntmps66
    go_wp2_with (go_at_call 32; refine (C.out _).mono ?_; rintro e w' ⟨rfl, rfl⟩)
    go_ret
    exact ⟨by rw [fin.out]; rfl, rfl⟩
  rcases Int.lt_trichotomy n 0 with c | c | c
  · have fin : Hid (r = b) := by unfold Hid; rw [← HR.out]; exact ((M.out rfl).2.1 c).2
    have t1 : (n == 0) = false := by simp; omega
    have t2 : ¬ 0 < n := by omega
    clear N M HR HT ht
    go_enter Tryd.func66, Tryd.ntmps66
    go_wp2_with (go_at_call 32; refine (C.out _).mono ?_; rintro e w' ⟨rfl, rfl⟩)
    go_ret
    exact ⟨by rw [fin.out]; rfl, rfl⟩
  · subst c
    have fin : Hid (r = t) := by unfold Hid; rw [← HR.out, ← HT.out]; exact ((M.out rfl).1 rfl).2.1
    clear N M HR HT
    go_enter Tryd.func66, Tryd.ntmps66
    go_wp2_with (go_at_call 32; refine (C.out _).mono ?_; rintro e w' ⟨rfl, rfl⟩)
    go_ret
    exact ⟨by rw [fin.out]; rfl, rfl⟩
  · have fin : Hid (r = a) := by unfold Hid; rw [← HR.out]; exact ((M.out rfl).2.2 c).2
    have t1 : (n == 0) = false := by simp; omega
    have t2 : ¬ n < 0 := by omega
    clear N M HR HT ht
    go_enter Tryd.func66, Tryd.ntmps66
    go_wp2_with (go_at_call 32; refine (C.out _).mono ?_; rintro e w' ⟨rfl, rfl⟩)
    go_ret
    exact ⟨by rw [fin.out]; rfl, rfl⟩

end Go.Proofs.YtnefacnceemklaaDoor
