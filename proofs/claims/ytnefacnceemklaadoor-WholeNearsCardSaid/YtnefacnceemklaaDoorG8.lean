/-
  whole.Whole by each way: walked.
-/
import Derived.Test.YtnefacnceemklaaDoorG7
namespace Go.Proofs.YtnefacnceemklaaDoor
open Go.RowKit Go.Shelf

set_option maxRecDepth 100000 in
set_option maxHeartbeats 2000000 in
theorem whole0 (x : Int) (h : Word x) (w : World) : Calls Tryd.prog 30 #[.int .u64 x, .int .i64 0] w (WholePost (wholeV 0 x) 0 w) := by
  have C := Lib.hid (fun W => cut_any x h W)
  have RU := Lib.hid (fun s q r o W => rule0 s q r o W)
  have MT := Lib.hid (fun s q r o h1 h2 h3 W => even_any s q r o h1 h2 h3 W)
  have e1 := eqnil1
  obtain ⟨k, hk⟩ : ∃ z, kindI x = z := ⟨_, rfl⟩
  have K := Lib.hid (fun W => kind_vars x k h hk W)
  have RI := Lib.hid (fun W => right_any x h W)
  obtain ⟨s, hs⟩ : ∃ z, negB x = z := ⟨_, rfl⟩
  have HS := Lib.hid hs
  obtain ⟨v, hv⟩ : ∃ z, wholeV 0 x = z := ⟨_, rfl⟩
  have V1 : Hid (3 ≤ k → v = rightI x) := fun c => by rw [← hv]; unfold wholeV; rw [if_pos (show 3 ≤ kindI x by omega)]
  have V2 : Hid (k < 3 → leftI x = 0 → v = x) := fun c l => by rw [← hv]; exact whole_exact h (by omega) l
  have V3 : Hid (k < 3 → rndI s (wholI x + (if upX 0 x = true then 1 else 0)) 0 = v) := fun c => by rw [← hv]; unfold wholeV; rw [if_neg (show ¬ 3 ≤ kindI x by omega), hs]
  rw [hv]
  clear hk hs hv h
  go_enter Tryd.func30, Tryd.ntmps30
  go_wp2_with fail
  refine (C.out _).mono ?_
  rintro e w1 ⟨q, r, o, rfl, hc, hb1⟩
  rw [HS.out]
  go_wp2_with fail
  refine (RU.out _ _ _ _ _).mono ?_
  rintro e w2 ⟨rfl, hb2⟩
  have z0 : w1.heap.size < w2.heap.size := by have := hb2.size; simp at this; omega
  have c0 : w2.cell? ⟨w1.heap.size, 0, none⟩ = some (.bool s) := by rw [(bcell hb2).1 _ _ (by simp)]; simp [go_sem]
  have c1 : w2.cell? ⟨w1.heap.size, 1, none⟩ = some (.int .u64 q) := by rw [(bcell hb2).1 _ _ (by simp)]; simp [go_sem]
  have c2 : w2.cell? ⟨w1.heap.size, 2, none⟩ = some (.int .u64 r) := by rw [(bcell hb2).1 _ _ (by simp)]; simp [go_sem]
  have z2 : w2.frozen? ⟨w1.heap.size, 1, none⟩ = false := by rw [(bcell hb2).2 _ _ (by simp)]; simp [go_sem]
  have hB2 : Below w.heap.size w w2 := (hb1.alloc hb1.size _).trans (hb2.mono (by have := hb1.size; simp; omega))
  have y1 := hb1.size
  clear hb1 hb2
  by_cases c : 3 ≤ k
  · have c' : ¬ k < 3 := by omega
    have fin : Hid (v = rightI x) := V1.out c
    clear hc V1 V2 V3
    go_wp2_with (first | (go_at_call 34; refine (K.out _).mono ?_; rintro e w' ⟨rfl, rfl⟩) | (go_at_call 69; refine (RI.out _).mono ?_; rintro e w' ⟨rfl, rfl⟩))
    go_ret2
    exact ⟨by rw [fin.out]; rfl, hB2⟩
  have c' : k < 3 := by omega
  by_cases r0 : r = 0
  · have fin : Hid (v = x) := V2.out c' (hc.z.1 r0)
    have t1 : (r == 0) = true := by simpa using r0
    clear hc V1 V2 V3 r0
    go_wp2_with (first | (go_at_call 34; refine (K.out _).mono ?_; rintro e w' ⟨rfl, rfl⟩) | (go_at_call 69; refine (RI.out _).mono ?_; rintro e w' ⟨rfl, rfl⟩))
    go_ret2
    exact ⟨by rw [fin.out]; rfl, hB2⟩
  have t1 : (r == 0) = false := by simpa using r0
  obtain ⟨f1, f2, _, u0, u1, u2, u3, u4, u5⟩ := up_facts hc r0
  have V3 := Lib.hid (V3.out c')
  rw [u0, ← f1] at V3
  have W := Lib.hid hc
  have Q0 := Lib.hid hc.q0
  clear u0 u1 u2 u3 u4 u5 f1 V1 V2 hc
  have MT2 := Lib.hid (fun W' => MT.out s q r o W.out.q0 W.out.r0 W.out.o0 W')
  obtain ⟨b, hbb⟩ : ∃ z, (evenW q r o) = z := ⟨_, rfl⟩
  rw [hbb] at MT2 V3
  have hbb := Lib.hid hbb
  clear MT W
  go_wp2_with (go_at_call 34; refine (K.out _).mono ?_; rintro e w' ⟨rfl, rfl⟩)
  refine (MT2.out _).mono ?_
  rintro e w3 ⟨rfl, hb3⟩
  have d0 : w3.cell? ⟨w1.heap.size, 0, none⟩ = some (.bool s) := by rw [(bcell hb3).1 _ _ z0]; exact c0
  have d1 : w3.cell? ⟨w1.heap.size, 1, none⟩ = some (.int .u64 q) := by rw [(bcell hb3).1 _ _ z0]; exact c1
  have d2 : w3.frozen? ⟨w1.heap.size, 1, none⟩ = false := by rw [(bcell hb3).2 _ _ z0]; exact z2
  have z3 : w1.heap.size < w3.heap.size := by have := hb3.size; omega
  have hB3 := hB2.trans (hb3.mono hB2.size)
  clear hb3 hB2 c0 c1 c2 z0 z2
  cases b
  · rw [if_neg Bool.false_ne_true] at V3
    rw [Int.add_zero] at V3
    have JR := Lib.hid (fun W => joinR_any s q 0 ⟨by have := Q0.out.1; omega, by omega⟩ (by decide) (by decide) W)
    rw [V3.out] at JR
    go_wp2_with fail
    refine (JR.out _).mono ?_
    rintro e w4 ⟨rfl, hb4⟩
    have hB4 := hB3.trans (hb4.mono hB3.size)
    go_wp2
    go_ret2
    exact ⟨rfl, hB4⟩
  · rw [if_pos rfl] at V3
    have JR := Lib.hid (fun W => joinR_any s (q + 1) 0 ⟨by have := Q0.out.1; omega, by omega⟩ (by decide) (by decide) W)
    rw [V3.out] at JR
    have q9 : 0 ≤ q := Q0.out.1
    go_wp2_with fail
    refine (JR.out _).mono ?_
    rintro e w4 ⟨rfl, hb4⟩
    have hB4 := (hB3.setCell (p := ⟨w1.heap.size, 1, none⟩) y1 (.int .u64 (q + 1))).trans (hb4.mono (by have := hB3.size; simp; omega))
    go_wp2
    go_ret2
    exact ⟨rfl, hB4⟩

set_option maxRecDepth 100000 in
set_option maxHeartbeats 2000000 in
theorem whole1 (x : Int) (h : Word x) (w : World) : Calls Tryd.prog 30 #[.int .u64 x, .int .i64 1] w (WholePost (wholeV 1 x) 0 w) := by
  have C := Lib.hid (fun W => cut_any x h W)
  have RU := Lib.hid (fun s q r o W => rule1 s q r o W)
  have MT := Lib.hid (fun s q r o h1 h2 h3 W => away_any s q r o h1 h2 h3 W)
  have e1 := eqnil1
  obtain ⟨k, hk⟩ : ∃ z, kindI x = z := ⟨_, rfl⟩
  have K := Lib.hid (fun W => kind_vars x k h hk W)
  have RI := Lib.hid (fun W => right_any x h W)
  obtain ⟨s, hs⟩ : ∃ z, negB x = z := ⟨_, rfl⟩
  have HS := Lib.hid hs
  obtain ⟨v, hv⟩ : ∃ z, wholeV 1 x = z := ⟨_, rfl⟩
  have V1 : Hid (3 ≤ k → v = rightI x) := fun c => by rw [← hv]; unfold wholeV; rw [if_pos (show 3 ≤ kindI x by omega)]
  have V2 : Hid (k < 3 → leftI x = 0 → v = x) := fun c l => by rw [← hv]; exact whole_exact h (by omega) l
  have V3 : Hid (k < 3 → rndI s (wholI x + (if upX 1 x = true then 1 else 0)) 0 = v) := fun c => by rw [← hv]; unfold wholeV; rw [if_neg (show ¬ 3 ≤ kindI x by omega), hs]
  rw [hv]
  clear hk hs hv h
  go_enter Tryd.func30, Tryd.ntmps30
  go_wp2_with fail
  refine (C.out _).mono ?_
  rintro e w1 ⟨q, r, o, rfl, hc, hb1⟩
  rw [HS.out]
  go_wp2_with fail
  refine (RU.out _ _ _ _ _).mono ?_
  rintro e w2 ⟨rfl, hb2⟩
  have z0 : w1.heap.size < w2.heap.size := by have := hb2.size; simp at this; omega
  have c0 : w2.cell? ⟨w1.heap.size, 0, none⟩ = some (.bool s) := by rw [(bcell hb2).1 _ _ (by simp)]; simp [go_sem]
  have c1 : w2.cell? ⟨w1.heap.size, 1, none⟩ = some (.int .u64 q) := by rw [(bcell hb2).1 _ _ (by simp)]; simp [go_sem]
  have c2 : w2.cell? ⟨w1.heap.size, 2, none⟩ = some (.int .u64 r) := by rw [(bcell hb2).1 _ _ (by simp)]; simp [go_sem]
  have z2 : w2.frozen? ⟨w1.heap.size, 1, none⟩ = false := by rw [(bcell hb2).2 _ _ (by simp)]; simp [go_sem]
  have hB2 : Below w.heap.size w w2 := (hb1.alloc hb1.size _).trans (hb2.mono (by have := hb1.size; simp; omega))
  have y1 := hb1.size
  clear hb1 hb2
  by_cases c : 3 ≤ k
  · have c' : ¬ k < 3 := by omega
    have fin : Hid (v = rightI x) := V1.out c
    clear hc V1 V2 V3
    go_wp2_with (first | (go_at_call 34; refine (K.out _).mono ?_; rintro e w' ⟨rfl, rfl⟩) | (go_at_call 69; refine (RI.out _).mono ?_; rintro e w' ⟨rfl, rfl⟩))
    go_ret2
    exact ⟨by rw [fin.out]; rfl, hB2⟩
  have c' : k < 3 := by omega
  by_cases r0 : r = 0
  · have fin : Hid (v = x) := V2.out c' (hc.z.1 r0)
    have t1 : (r == 0) = true := by simpa using r0
    clear hc V1 V2 V3 r0
    go_wp2_with (first | (go_at_call 34; refine (K.out _).mono ?_; rintro e w' ⟨rfl, rfl⟩) | (go_at_call 69; refine (RI.out _).mono ?_; rintro e w' ⟨rfl, rfl⟩))
    go_ret2
    exact ⟨by rw [fin.out]; rfl, hB2⟩
  have t1 : (r == 0) = false := by simpa using r0
  obtain ⟨f1, f2, _, u0, u1, u2, u3, u4, u5⟩ := up_facts hc r0
  have V3 := Lib.hid (V3.out c')
  rw [u1, ← f1] at V3
  have W := Lib.hid hc
  have Q0 := Lib.hid hc.q0
  clear u0 u1 u2 u3 u4 u5 f1 V1 V2 hc
  have MT2 := Lib.hid (fun W' => MT.out s q r o W.out.q0 W.out.r0 W.out.o0 W')
  obtain ⟨b, hbb⟩ : ∃ z, (awayW r o) = z := ⟨_, rfl⟩
  rw [hbb] at MT2 V3
  have hbb := Lib.hid hbb
  clear MT W
  go_wp2_with (go_at_call 34; refine (K.out _).mono ?_; rintro e w' ⟨rfl, rfl⟩)
  refine (MT2.out _).mono ?_
  rintro e w3 ⟨rfl, hb3⟩
  have d0 : w3.cell? ⟨w1.heap.size, 0, none⟩ = some (.bool s) := by rw [(bcell hb3).1 _ _ z0]; exact c0
  have d1 : w3.cell? ⟨w1.heap.size, 1, none⟩ = some (.int .u64 q) := by rw [(bcell hb3).1 _ _ z0]; exact c1
  have d2 : w3.frozen? ⟨w1.heap.size, 1, none⟩ = false := by rw [(bcell hb3).2 _ _ z0]; exact z2
  have z3 : w1.heap.size < w3.heap.size := by have := hb3.size; omega
  have hB3 := hB2.trans (hb3.mono hB2.size)
  clear hb3 hB2 c0 c1 c2 z0 z2
  cases b
  · rw [if_neg Bool.false_ne_true] at V3
    rw [Int.add_zero] at V3
    have JR := Lib.hid (fun W => joinR_any s q 0 ⟨by have := Q0.out.1; omega, by omega⟩ (by decide) (by decide) W)
    rw [V3.out] at JR
    go_wp2_with fail
    refine (JR.out _).mono ?_
    rintro e w4 ⟨rfl, hb4⟩
    have hB4 := hB3.trans (hb4.mono hB3.size)
    go_wp2
    go_ret2
    exact ⟨rfl, hB4⟩
  · rw [if_pos rfl] at V3
    have JR := Lib.hid (fun W => joinR_any s (q + 1) 0 ⟨by have := Q0.out.1; omega, by omega⟩ (by decide) (by decide) W)
    rw [V3.out] at JR
    have q9 : 0 ≤ q := Q0.out.1
    go_wp2_with fail
    refine (JR.out _).mono ?_
    rintro e w4 ⟨rfl, hb4⟩
    have hB4 := (hB3.setCell (p := ⟨w1.heap.size, 1, none⟩) y1 (.int .u64 (q + 1))).trans (hb4.mono (by have := hB3.size; simp; omega))
    go_wp2
    go_ret2
    exact ⟨rfl, hB4⟩

set_option maxRecDepth 100000 in
set_option maxHeartbeats 2000000 in
theorem whole2 (x : Int) (h : Word x) (w : World) : Calls Tryd.prog 30 #[.int .u64 x, .int .i64 2] w (WholePost (wholeV 2 x) 0 w) := by
  have C := Lib.hid (fun W => cut_any x h W)
  have RU := Lib.hid (fun s q r o W => rule2 s q r o W)
  have MT := Lib.hid (fun s q r o h1 h2 h3 W => down_any s q r o h1 h2 h3 W)
  have e1 := eqnil1
  obtain ⟨k, hk⟩ : ∃ z, kindI x = z := ⟨_, rfl⟩
  have K := Lib.hid (fun W => kind_vars x k h hk W)
  have RI := Lib.hid (fun W => right_any x h W)
  obtain ⟨s, hs⟩ : ∃ z, negB x = z := ⟨_, rfl⟩
  have HS := Lib.hid hs
  obtain ⟨v, hv⟩ : ∃ z, wholeV 2 x = z := ⟨_, rfl⟩
  have V1 : Hid (3 ≤ k → v = rightI x) := fun c => by rw [← hv]; unfold wholeV; rw [if_pos (show 3 ≤ kindI x by omega)]
  have V2 : Hid (k < 3 → leftI x = 0 → v = x) := fun c l => by rw [← hv]; exact whole_exact h (by omega) l
  have V3 : Hid (k < 3 → rndI s (wholI x + (if upX 2 x = true then 1 else 0)) 0 = v) := fun c => by rw [← hv]; unfold wholeV; rw [if_neg (show ¬ 3 ≤ kindI x by omega), hs]
  rw [hv]
  clear hk hs hv h
  go_enter Tryd.func30, Tryd.ntmps30
  go_wp2_with fail
  refine (C.out _).mono ?_
  rintro e w1 ⟨q, r, o, rfl, hc, hb1⟩
  rw [HS.out]
  go_wp2_with fail
  refine (RU.out _ _ _ _ _).mono ?_
  rintro e w2 ⟨rfl, hb2⟩
  have z0 : w1.heap.size < w2.heap.size := by have := hb2.size; simp at this; omega
  have c0 : w2.cell? ⟨w1.heap.size, 0, none⟩ = some (.bool s) := by rw [(bcell hb2).1 _ _ (by simp)]; simp [go_sem]
  have c1 : w2.cell? ⟨w1.heap.size, 1, none⟩ = some (.int .u64 q) := by rw [(bcell hb2).1 _ _ (by simp)]; simp [go_sem]
  have c2 : w2.cell? ⟨w1.heap.size, 2, none⟩ = some (.int .u64 r) := by rw [(bcell hb2).1 _ _ (by simp)]; simp [go_sem]
  have z2 : w2.frozen? ⟨w1.heap.size, 1, none⟩ = false := by rw [(bcell hb2).2 _ _ (by simp)]; simp [go_sem]
  have hB2 : Below w.heap.size w w2 := (hb1.alloc hb1.size _).trans (hb2.mono (by have := hb1.size; simp; omega))
  have y1 := hb1.size
  clear hb1 hb2
  by_cases c : 3 ≤ k
  · have c' : ¬ k < 3 := by omega
    have fin : Hid (v = rightI x) := V1.out c
    clear hc V1 V2 V3
    go_wp2_with (first | (go_at_call 34; refine (K.out _).mono ?_; rintro e w' ⟨rfl, rfl⟩) | (go_at_call 69; refine (RI.out _).mono ?_; rintro e w' ⟨rfl, rfl⟩))
    go_ret2
    exact ⟨by rw [fin.out]; rfl, hB2⟩
  have c' : k < 3 := by omega
  by_cases r0 : r = 0
  · have fin : Hid (v = x) := V2.out c' (hc.z.1 r0)
    have t1 : (r == 0) = true := by simpa using r0
    clear hc V1 V2 V3 r0
    go_wp2_with (first | (go_at_call 34; refine (K.out _).mono ?_; rintro e w' ⟨rfl, rfl⟩) | (go_at_call 69; refine (RI.out _).mono ?_; rintro e w' ⟨rfl, rfl⟩))
    go_ret2
    exact ⟨by rw [fin.out]; rfl, hB2⟩
  have t1 : (r == 0) = false := by simpa using r0
  obtain ⟨f1, f2, _, u0, u1, u2, u3, u4, u5⟩ := up_facts hc r0
  have V3 := Lib.hid (V3.out c')
  rw [u2, ← f1] at V3
  have W := Lib.hid hc
  have Q0 := Lib.hid hc.q0
  clear u0 u1 u2 u3 u4 u5 f1 V1 V2 hc
  have MT2 := Lib.hid (fun W' => MT.out s q r o W.out.q0 W.out.r0 W.out.o0 W')
  clear MT W
  go_wp2_with (go_at_call 34; refine (K.out _).mono ?_; rintro e w' ⟨rfl, rfl⟩)
  refine (MT2.out _).mono ?_
  rintro e w3 ⟨rfl, hb3⟩
  have d0 : w3.cell? ⟨w1.heap.size, 0, none⟩ = some (.bool s) := by rw [(bcell hb3).1 _ _ z0]; exact c0
  have d1 : w3.cell? ⟨w1.heap.size, 1, none⟩ = some (.int .u64 q) := by rw [(bcell hb3).1 _ _ z0]; exact c1
  have d2 : w3.frozen? ⟨w1.heap.size, 1, none⟩ = false := by rw [(bcell hb3).2 _ _ z0]; exact z2
  have z3 : w1.heap.size < w3.heap.size := by have := hb3.size; omega
  have hB3 := hB2.trans (hb3.mono hB2.size)
  clear hb3 hB2 c0 c1 c2 z0 z2
  · rw [if_neg Bool.false_ne_true] at V3
    rw [Int.add_zero] at V3
    have JR := Lib.hid (fun W => joinR_any s q 0 ⟨by have := Q0.out.1; omega, by omega⟩ (by decide) (by decide) W)
    rw [V3.out] at JR
    go_wp2_with fail
    refine (JR.out _).mono ?_
    rintro e w4 ⟨rfl, hb4⟩
    have hB4 := hB3.trans (hb4.mono hB3.size)
    go_wp2
    go_ret2
    exact ⟨rfl, hB4⟩

set_option maxRecDepth 100000 in
set_option maxHeartbeats 2000000 in
theorem whole3 (x : Int) (h : Word x) (w : World) : Calls Tryd.prog 30 #[.int .u64 x, .int .i64 3] w (WholePost (wholeV 3 x) 0 w) := by
  have C := Lib.hid (fun W => cut_any x h W)
  have RU := Lib.hid (fun s q r o W => rule3 s q r o W)
  have MT := Lib.hid (fun s q r o h1 h2 h3 W => up_any s q r o h1 h2 h3 W)
  have e1 := eqnil1
  obtain ⟨k, hk⟩ : ∃ z, kindI x = z := ⟨_, rfl⟩
  have K := Lib.hid (fun W => kind_vars x k h hk W)
  have RI := Lib.hid (fun W => right_any x h W)
  obtain ⟨s, hs⟩ : ∃ z, negB x = z := ⟨_, rfl⟩
  have HS := Lib.hid hs
  obtain ⟨v, hv⟩ : ∃ z, wholeV 3 x = z := ⟨_, rfl⟩
  have V1 : Hid (3 ≤ k → v = rightI x) := fun c => by rw [← hv]; unfold wholeV; rw [if_pos (show 3 ≤ kindI x by omega)]
  have V2 : Hid (k < 3 → leftI x = 0 → v = x) := fun c l => by rw [← hv]; exact whole_exact h (by omega) l
  have V3 : Hid (k < 3 → rndI s (wholI x + (if upX 3 x = true then 1 else 0)) 0 = v) := fun c => by rw [← hv]; unfold wholeV; rw [if_neg (show ¬ 3 ≤ kindI x by omega), hs]
  rw [hv]
  clear hk hs hv h
  go_enter Tryd.func30, Tryd.ntmps30
  go_wp2_with fail
  refine (C.out _).mono ?_
  rintro e w1 ⟨q, r, o, rfl, hc, hb1⟩
  rw [HS.out]
  go_wp2_with fail
  refine (RU.out _ _ _ _ _).mono ?_
  rintro e w2 ⟨rfl, hb2⟩
  have z0 : w1.heap.size < w2.heap.size := by have := hb2.size; simp at this; omega
  have c0 : w2.cell? ⟨w1.heap.size, 0, none⟩ = some (.bool s) := by rw [(bcell hb2).1 _ _ (by simp)]; simp [go_sem]
  have c1 : w2.cell? ⟨w1.heap.size, 1, none⟩ = some (.int .u64 q) := by rw [(bcell hb2).1 _ _ (by simp)]; simp [go_sem]
  have c2 : w2.cell? ⟨w1.heap.size, 2, none⟩ = some (.int .u64 r) := by rw [(bcell hb2).1 _ _ (by simp)]; simp [go_sem]
  have z2 : w2.frozen? ⟨w1.heap.size, 1, none⟩ = false := by rw [(bcell hb2).2 _ _ (by simp)]; simp [go_sem]
  have hB2 : Below w.heap.size w w2 := (hb1.alloc hb1.size _).trans (hb2.mono (by have := hb1.size; simp; omega))
  have y1 := hb1.size
  clear hb1 hb2
  by_cases c : 3 ≤ k
  · have c' : ¬ k < 3 := by omega
    have fin : Hid (v = rightI x) := V1.out c
    clear hc V1 V2 V3
    go_wp2_with (first | (go_at_call 34; refine (K.out _).mono ?_; rintro e w' ⟨rfl, rfl⟩) | (go_at_call 69; refine (RI.out _).mono ?_; rintro e w' ⟨rfl, rfl⟩))
    go_ret2
    exact ⟨by rw [fin.out]; rfl, hB2⟩
  have c' : k < 3 := by omega
  by_cases r0 : r = 0
  · have fin : Hid (v = x) := V2.out c' (hc.z.1 r0)
    have t1 : (r == 0) = true := by simpa using r0
    clear hc V1 V2 V3 r0
    go_wp2_with (first | (go_at_call 34; refine (K.out _).mono ?_; rintro e w' ⟨rfl, rfl⟩) | (go_at_call 69; refine (RI.out _).mono ?_; rintro e w' ⟨rfl, rfl⟩))
    go_ret2
    exact ⟨by rw [fin.out]; rfl, hB2⟩
  have t1 : (r == 0) = false := by simpa using r0
  obtain ⟨f1, f2, _, u0, u1, u2, u3, u4, u5⟩ := up_facts hc r0
  have V3 := Lib.hid (V3.out c')
  rw [u3, ← f1] at V3
  have W := Lib.hid hc
  have Q0 := Lib.hid hc.q0
  clear u0 u1 u2 u3 u4 u5 f1 V1 V2 hc
  have MT2 := Lib.hid (fun W' => MT.out s q r o W.out.q0 W.out.r0 W.out.o0 W')
  clear MT W
  go_wp2_with (go_at_call 34; refine (K.out _).mono ?_; rintro e w' ⟨rfl, rfl⟩)
  refine (MT2.out _).mono ?_
  rintro e w3 ⟨rfl, hb3⟩
  have d0 : w3.cell? ⟨w1.heap.size, 0, none⟩ = some (.bool s) := by rw [(bcell hb3).1 _ _ z0]; exact c0
  have d1 : w3.cell? ⟨w1.heap.size, 1, none⟩ = some (.int .u64 q) := by rw [(bcell hb3).1 _ _ z0]; exact c1
  have d2 : w3.frozen? ⟨w1.heap.size, 1, none⟩ = false := by rw [(bcell hb3).2 _ _ z0]; exact z2
  have z3 : w1.heap.size < w3.heap.size := by have := hb3.size; omega
  have hB3 := hB2.trans (hb3.mono hB2.size)
  clear hb3 hB2 c0 c1 c2 z0 z2
  · rw [if_pos trivial] at V3
    have JR := Lib.hid (fun W => joinR_any s (q + 1) 0 ⟨by have := Q0.out.1; omega, by omega⟩ (by decide) (by decide) W)
    rw [V3.out] at JR
    have q9 : 0 ≤ q := Q0.out.1
    go_wp2_with fail
    refine (JR.out _).mono ?_
    rintro e w4 ⟨rfl, hb4⟩
    have hB4 := (hB3.setCell (p := ⟨w1.heap.size, 1, none⟩) y1 (.int .u64 (q + 1))).trans (hb4.mono (by have := hB3.size; simp; omega))
    go_wp2
    go_ret2
    exact ⟨rfl, hB4⟩

set_option maxRecDepth 100000 in
set_option maxHeartbeats 2000000 in
theorem whole4 (x : Int) (h : Word x) (w : World) : Calls Tryd.prog 30 #[.int .u64 x, .int .i64 4] w (WholePost (wholeV 4 x) 0 w) := by
  have C := Lib.hid (fun W => cut_any x h W)
  have RU := Lib.hid (fun s q r o W => rule4 s q r o W)
  have MT := Lib.hid (fun s q r o h1 h2 h3 W => low_any s q r o h1 h2 h3 W)
  have e1 := eqnil1
  obtain ⟨k, hk⟩ : ∃ z, kindI x = z := ⟨_, rfl⟩
  have K := Lib.hid (fun W => kind_vars x k h hk W)
  have RI := Lib.hid (fun W => right_any x h W)
  obtain ⟨s, hs⟩ : ∃ z, negB x = z := ⟨_, rfl⟩
  have HS := Lib.hid hs
  obtain ⟨v, hv⟩ : ∃ z, wholeV 4 x = z := ⟨_, rfl⟩
  have V1 : Hid (3 ≤ k → v = rightI x) := fun c => by rw [← hv]; unfold wholeV; rw [if_pos (show 3 ≤ kindI x by omega)]
  have V2 : Hid (k < 3 → leftI x = 0 → v = x) := fun c l => by rw [← hv]; exact whole_exact h (by omega) l
  have V3 : Hid (k < 3 → rndI s (wholI x + (if upX 4 x = true then 1 else 0)) 0 = v) := fun c => by rw [← hv]; unfold wholeV; rw [if_neg (show ¬ 3 ≤ kindI x by omega), hs]
  rw [hv]
  clear hk hs hv h
  go_enter Tryd.func30, Tryd.ntmps30
  go_wp2_with fail
  refine (C.out _).mono ?_
  rintro e w1 ⟨q, r, o, rfl, hc, hb1⟩
  rw [HS.out]
  go_wp2_with fail
  refine (RU.out _ _ _ _ _).mono ?_
  rintro e w2 ⟨rfl, hb2⟩
  have z0 : w1.heap.size < w2.heap.size := by have := hb2.size; simp at this; omega
  have c0 : w2.cell? ⟨w1.heap.size, 0, none⟩ = some (.bool s) := by rw [(bcell hb2).1 _ _ (by simp)]; simp [go_sem]
  have c1 : w2.cell? ⟨w1.heap.size, 1, none⟩ = some (.int .u64 q) := by rw [(bcell hb2).1 _ _ (by simp)]; simp [go_sem]
  have c2 : w2.cell? ⟨w1.heap.size, 2, none⟩ = some (.int .u64 r) := by rw [(bcell hb2).1 _ _ (by simp)]; simp [go_sem]
  have z2 : w2.frozen? ⟨w1.heap.size, 1, none⟩ = false := by rw [(bcell hb2).2 _ _ (by simp)]; simp [go_sem]
  have hB2 : Below w.heap.size w w2 := (hb1.alloc hb1.size _).trans (hb2.mono (by have := hb1.size; simp; omega))
  have y1 := hb1.size
  clear hb1 hb2
  by_cases c : 3 ≤ k
  · have c' : ¬ k < 3 := by omega
    have fin : Hid (v = rightI x) := V1.out c
    clear hc V1 V2 V3
    go_wp2_with (first | (go_at_call 34; refine (K.out _).mono ?_; rintro e w' ⟨rfl, rfl⟩) | (go_at_call 69; refine (RI.out _).mono ?_; rintro e w' ⟨rfl, rfl⟩))
    go_ret2
    exact ⟨by rw [fin.out]; rfl, hB2⟩
  have c' : k < 3 := by omega
  by_cases r0 : r = 0
  · have fin : Hid (v = x) := V2.out c' (hc.z.1 r0)
    have t1 : (r == 0) = true := by simpa using r0
    clear hc V1 V2 V3 r0
    go_wp2_with (first | (go_at_call 34; refine (K.out _).mono ?_; rintro e w' ⟨rfl, rfl⟩) | (go_at_call 69; refine (RI.out _).mono ?_; rintro e w' ⟨rfl, rfl⟩))
    go_ret2
    exact ⟨by rw [fin.out]; rfl, hB2⟩
  have t1 : (r == 0) = false := by simpa using r0
  obtain ⟨f1, f2, _, u0, u1, u2, u3, u4, u5⟩ := up_facts hc r0
  have V3 := Lib.hid (V3.out c')
  rw [u4, ← f1] at V3
  rw [HS.out] at V3
  have W := Lib.hid hc
  have Q0 := Lib.hid hc.q0
  clear u0 u1 u2 u3 u4 u5 f1 V1 V2 hc
  have MT2 := Lib.hid (fun W' => MT.out s q r o W.out.q0 W.out.r0 W.out.o0 W')
  clear MT W
  go_wp2_with (go_at_call 34; refine (K.out _).mono ?_; rintro e w' ⟨rfl, rfl⟩)
  refine (MT2.out _).mono ?_
  rintro e w3 ⟨rfl, hb3⟩
  have d0 : w3.cell? ⟨w1.heap.size, 0, none⟩ = some (.bool s) := by rw [(bcell hb3).1 _ _ z0]; exact c0
  have d1 : w3.cell? ⟨w1.heap.size, 1, none⟩ = some (.int .u64 q) := by rw [(bcell hb3).1 _ _ z0]; exact c1
  have d2 : w3.frozen? ⟨w1.heap.size, 1, none⟩ = false := by rw [(bcell hb3).2 _ _ z0]; exact z2
  have z3 : w1.heap.size < w3.heap.size := by have := hb3.size; omega
  have hB3 := hB2.trans (hb3.mono hB2.size)
  clear hb3 hB2 c0 c1 c2 z0 z2
  cases s
  · rw [if_neg Bool.false_ne_true] at V3
    rw [Int.add_zero] at V3
    have JR := Lib.hid (fun W => joinR_any false q 0 ⟨by have := Q0.out.1; omega, by omega⟩ (by decide) (by decide) W)
    rw [V3.out] at JR
    go_wp2_with fail
    refine (JR.out _).mono ?_
    rintro e w4 ⟨rfl, hb4⟩
    have hB4 := hB3.trans (hb4.mono hB3.size)
    go_wp2
    go_ret2
    exact ⟨rfl, hB4⟩
  · rw [if_pos rfl] at V3
    have JR := Lib.hid (fun W => joinR_any true (q + 1) 0 ⟨by have := Q0.out.1; omega, by omega⟩ (by decide) (by decide) W)
    rw [V3.out] at JR
    have q9 : 0 ≤ q := Q0.out.1
    go_wp2_with fail
    refine (JR.out _).mono ?_
    rintro e w4 ⟨rfl, hb4⟩
    have hB4 := (hB3.setCell (p := ⟨w1.heap.size, 1, none⟩) y1 (.int .u64 (q + 1))).trans (hb4.mono (by have := hB3.size; simp; omega))
    go_wp2
    go_ret2
    exact ⟨rfl, hB4⟩

set_option maxRecDepth 100000 in
set_option maxHeartbeats 2000000 in
theorem whole5 (x : Int) (h : Word x) (w : World) : Calls Tryd.prog 30 #[.int .u64 x, .int .i64 5] w (WholePost (wholeV 5 x) 0 w) := by
  have C := Lib.hid (fun W => cut_any x h W)
  have RU := Lib.hid (fun s q r o W => rule5 s q r o W)
  have MT := Lib.hid (fun s q r o h1 h2 h3 W => high_any s q r o h1 h2 h3 W)
  have e1 := eqnil1
  obtain ⟨k, hk⟩ : ∃ z, kindI x = z := ⟨_, rfl⟩
  have K := Lib.hid (fun W => kind_vars x k h hk W)
  have RI := Lib.hid (fun W => right_any x h W)
  obtain ⟨s, hs⟩ : ∃ z, negB x = z := ⟨_, rfl⟩
  have HS := Lib.hid hs
  obtain ⟨v, hv⟩ : ∃ z, wholeV 5 x = z := ⟨_, rfl⟩
  have V1 : Hid (3 ≤ k → v = rightI x) := fun c => by rw [← hv]; unfold wholeV; rw [if_pos (show 3 ≤ kindI x by omega)]
  have V2 : Hid (k < 3 → leftI x = 0 → v = x) := fun c l => by rw [← hv]; exact whole_exact h (by omega) l
  have V3 : Hid (k < 3 → rndI s (wholI x + (if upX 5 x = true then 1 else 0)) 0 = v) := fun c => by rw [← hv]; unfold wholeV; rw [if_neg (show ¬ 3 ≤ kindI x by omega), hs]
  rw [hv]
  clear hk hs hv h
  go_enter Tryd.func30, Tryd.ntmps30
  go_wp2_with fail
  refine (C.out _).mono ?_
  rintro e w1 ⟨q, r, o, rfl, hc, hb1⟩
  rw [HS.out]
  go_wp2_with fail
  refine (RU.out _ _ _ _ _).mono ?_
  rintro e w2 ⟨rfl, hb2⟩
  have z0 : w1.heap.size < w2.heap.size := by have := hb2.size; simp at this; omega
  have c0 : w2.cell? ⟨w1.heap.size, 0, none⟩ = some (.bool s) := by rw [(bcell hb2).1 _ _ (by simp)]; simp [go_sem]
  have c1 : w2.cell? ⟨w1.heap.size, 1, none⟩ = some (.int .u64 q) := by rw [(bcell hb2).1 _ _ (by simp)]; simp [go_sem]
  have c2 : w2.cell? ⟨w1.heap.size, 2, none⟩ = some (.int .u64 r) := by rw [(bcell hb2).1 _ _ (by simp)]; simp [go_sem]
  have z2 : w2.frozen? ⟨w1.heap.size, 1, none⟩ = false := by rw [(bcell hb2).2 _ _ (by simp)]; simp [go_sem]
  have hB2 : Below w.heap.size w w2 := (hb1.alloc hb1.size _).trans (hb2.mono (by have := hb1.size; simp; omega))
  have y1 := hb1.size
  clear hb1 hb2
  by_cases c : 3 ≤ k
  · have c' : ¬ k < 3 := by omega
    have fin : Hid (v = rightI x) := V1.out c
    clear hc V1 V2 V3
    go_wp2_with (first | (go_at_call 34; refine (K.out _).mono ?_; rintro e w' ⟨rfl, rfl⟩) | (go_at_call 69; refine (RI.out _).mono ?_; rintro e w' ⟨rfl, rfl⟩))
    go_ret2
    exact ⟨by rw [fin.out]; rfl, hB2⟩
  have c' : k < 3 := by omega
  by_cases r0 : r = 0
  · have fin : Hid (v = x) := V2.out c' (hc.z.1 r0)
    have t1 : (r == 0) = true := by simpa using r0
    clear hc V1 V2 V3 r0
    go_wp2_with (first | (go_at_call 34; refine (K.out _).mono ?_; rintro e w' ⟨rfl, rfl⟩) | (go_at_call 69; refine (RI.out _).mono ?_; rintro e w' ⟨rfl, rfl⟩))
    go_ret2
    exact ⟨by rw [fin.out]; rfl, hB2⟩
  have t1 : (r == 0) = false := by simpa using r0
  obtain ⟨f1, f2, _, u0, u1, u2, u3, u4, u5⟩ := up_facts hc r0
  have V3 := Lib.hid (V3.out c')
  rw [u5, ← f1] at V3
  rw [HS.out] at V3
  have W := Lib.hid hc
  have Q0 := Lib.hid hc.q0
  clear u0 u1 u2 u3 u4 u5 f1 V1 V2 hc
  have MT2 := Lib.hid (fun W' => MT.out s q r o W.out.q0 W.out.r0 W.out.o0 W')
  obtain ⟨b, hbb⟩ : ∃ z, (!s) = z := ⟨_, rfl⟩
  rw [hbb] at MT2 V3
  have hbb := Lib.hid hbb
  clear MT W
  go_wp2_with (go_at_call 34; refine (K.out _).mono ?_; rintro e w' ⟨rfl, rfl⟩)
  refine (MT2.out _).mono ?_
  rintro e w3 ⟨rfl, hb3⟩
  have d0 : w3.cell? ⟨w1.heap.size, 0, none⟩ = some (.bool s) := by rw [(bcell hb3).1 _ _ z0]; exact c0
  have d1 : w3.cell? ⟨w1.heap.size, 1, none⟩ = some (.int .u64 q) := by rw [(bcell hb3).1 _ _ z0]; exact c1
  have d2 : w3.frozen? ⟨w1.heap.size, 1, none⟩ = false := by rw [(bcell hb3).2 _ _ z0]; exact z2
  have z3 : w1.heap.size < w3.heap.size := by have := hb3.size; omega
  have hB3 := hB2.trans (hb3.mono hB2.size)
  clear hb3 hB2 c0 c1 c2 z0 z2
  cases b
  · rw [if_neg Bool.false_ne_true] at V3
    rw [Int.add_zero] at V3
    have JR := Lib.hid (fun W => joinR_any s q 0 ⟨by have := Q0.out.1; omega, by omega⟩ (by decide) (by decide) W)
    rw [V3.out] at JR
    go_wp2_with fail
    refine (JR.out _).mono ?_
    rintro e w4 ⟨rfl, hb4⟩
    have hB4 := hB3.trans (hb4.mono hB3.size)
    go_wp2
    go_ret2
    exact ⟨rfl, hB4⟩
  · rw [if_pos rfl] at V3
    have JR := Lib.hid (fun W => joinR_any s (q + 1) 0 ⟨by have := Q0.out.1; omega, by omega⟩ (by decide) (by decide) W)
    rw [V3.out] at JR
    have q9 : 0 ≤ q := Q0.out.1
    go_wp2_with fail
    refine (JR.out _).mono ?_
    rintro e w4 ⟨rfl, hb4⟩
    have hB4 := (hB3.setCell (p := ⟨w1.heap.size, 1, none⟩) y1 (.int .u64 (q + 1))).trans (hb4.mono (by have := hB3.size; simp; omega))
    go_wp2
    go_ret2
    exact ⟨rfl, hB4⟩

end Go.Proofs.YtnefacnceemklaaDoor
