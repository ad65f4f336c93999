/-
  Decimals: Point of both sides, sign, at: walked.
-/
import Derived.Test.YtgjhpcmpgkfnkaaDoorA6
namespace Go.Proofs.YtgjhpcmpgkfnkaaDoor
open Go.RowKit Go.Shelf

theorem via {w X x : World} (h1 : Below w.heap.size w X) (h2 : Below X.heap.size X x) : Below w.heap.size w x := h1.trans (h2.mono h1.size)
/-- A decimal in a box. -/
structure BoxD (W : World) (B : Nat) (b : Bool) (s : ByteArray) (x : Int) : Prop where
  b : W.cell? ⟨B, 0, none⟩ = some (.bool b)
  s : W.cell? ⟨B, 1, none⟩ = some (.string s)
  x : W.cell? ⟨B, 2, none⟩ = some (.int .i64 x)
theorem BoxD.new (w : World) (b : Bool) (s : ByteArray) (x : Int) : BoxD (w.alloc (.cells #[.bool b, .string s, .int .i64 x] 23)) w.heap.size b s x :=
  ⟨by rw [World.cell?_alloc_at _ _ _ _ rfl]; rfl, by rw [World.cell?_alloc_at _ _ _ _ rfl]; rfl, by rw [World.cell?_alloc_at _ _ _ _ rfl]; rfl⟩
theorem BoxD.on {W W' : World} {n B : Nat} {b : Bool} {s : ByteArray} {x : Int} (h : BoxD W B b s x) (hb : Below n W W') (hB : B < n) : BoxD W' B b s x :=
  ⟨by rw [hb.cell (p := ⟨B, 0, none⟩) hB]; exact h.b, by rw [hb.cell (p := ⟨B, 1, none⟩) hB]; exact h.s, by rw [hb.cell (p := ⟨B, 2, none⟩) hB]; exact h.x⟩
theorem boxD1 (w : World) (b : Bool) (s : ByteArray) (x : Int) : ∃ W : World, w.alloc (.cells #[.bool b, .string s, .int .i64 x] 23) = W ∧ BoxD W w.heap.size b s x ∧ Below w.heap.size w W ∧ w.heap.size < W.heap.size :=
  ⟨_, rfl, BoxD.new w b s x, by (repeat' first | exact Below.refl _ _ | refine Below.alloc ?_ ?_ _ | refine Below.setCell ?_ ?_ _ | refine below_drewN ?_ _ | (simp; done) | (simp; omega)), by simp⟩
theorem boxD2 (w : World) (b : Bool) (s : ByteArray) (x : Int) (c : Bool) (t : ByteArray) (y : Int) : ∃ W1 W : World, w.alloc (.cells #[.bool b, .string s, .int .i64 x] 23) = W1 ∧ W1.heap.size = w.heap.size + 1 ∧ W1.alloc (.cells #[.bool c, .string t, .int .i64 y] 23) = W ∧ BoxD W w.heap.size b s x ∧ BoxD W (w.heap.size + 1) c t y ∧ Below w.heap.size w W ∧ w.heap.size + 1 < W.heap.size := by
  have h := BoxD.new (w.alloc (.cells #[.bool b, .string s, .int .i64 x] 23)) c t y
  refine ⟨_, _, rfl, by simp, rfl, (BoxD.new w b s x).on (n := (w.alloc (.cells #[.bool b, .string s, .int .i64 x] 23)).heap.size) (Below.alloc (Below.refl _ _) (Nat.le_refl _) _) (by simp), ?_, by (repeat' first | exact Below.refl _ _ | refine Below.alloc ?_ ?_ _ | refine Below.setCell ?_ ?_ _ | refine below_drewN ?_ _ | (simp; done) | (simp; omega)), by simp⟩
  rw [show (w.alloc (.cells #[.bool b, .string s, .int .i64 x] 23)).heap.size = w.heap.size + 1 by simp] at h
  exact h
theorem point_any (b : Bool) (s : ByteArray) (x : Int) (w : World) (hs : s.size ≤ 1000000) :
    Calls Tryd.prog 14 #[.agg #[.bool b, .string s, .int .i64 x]] w fun e w' => e = .returned (.int .i64 (pointV s.data.toList x)) ∧ Below w.heap.size w w' := by
  have RA := Lib.hid (fun W => right_any b s x W hs)
  have SZ := bytes_size s
  obtain ⟨l, hl⟩ : ∃ l, s.data.toList = l := ⟨_, rfl⟩
  rw [hl] at RA SZ ⊢
  clear hl
  cases ht : rightV l x with
  | true =>
    have RL := rightV_len ht
    have A : Hid (pointV l x = (s.size : Int) + x) := by unfold Hid pointV; rw [if_pos ht, SZ]
    rw [ht] at RA
    have w1 : IntKind.i64.wrap ((s.size : Int) + x) = (s.size : Int) + x := by rw [IntKind.wrap_i64]; omega
    clear ht SZ
    obtain ⟨W, hW, bx, hbW, sz⟩ := boxD1 w b s x
    have BX := Lib.hid (And.intro bx (And.intro hbW sz))
    obtain ⟨e0, e1, e2⟩ := bx
    clear hbW sz
    go_enter Tryd.func14, Tryd.ntmps14
    go_wp2_with fail
    refine (RA.out _).mono ?_
    rintro e w2 ⟨rfl, hb⟩
    have HB := Lib.hid (via BX.out.2.1 hb)
    clear e0 e1 e2
    obtain ⟨c0, c1, c2⟩ := BX.out.1.on hb BX.out.2.2
    clear hb
    go_wp2
    go_ret
    exact ⟨by rw [A.out]; rfl, HB.out⟩
  | false =>
    have A : Hid (pointV l x = 0) := by unfold Hid pointV; rw [if_neg (by rw [ht]; simp)]
    rw [ht] at RA
    clear ht SZ
    obtain ⟨W, hW, bx, hbW, sz⟩ := boxD1 w b s x
    have BX := Lib.hid (And.intro bx (And.intro hbW sz))
    obtain ⟨e0, e1, e2⟩ := bx
    clear hbW sz
    go_enter Tryd.func14, Tryd.ntmps14
    go_wp2_with fail
    refine (RA.out _).mono ?_
    rintro e w2 ⟨rfl, hb⟩
    have HB := Lib.hid (via BX.out.2.1 hb)
    clear e0 e1 e2
    obtain ⟨c0, c1, c2⟩ := BX.out.1.on hb BX.out.2.2
    clear hb
    go_wp2
    go_ret
    exact ⟨by rw [A.out]; rfl, HB.out⟩
theorem rpoint_any (b : Bool) (s : ByteArray) (x : Int) (w : World) (hs : s.size ≤ 1000000) :
    Calls Tryd.prog 15 #[.agg #[.bool b, .string s, .int .i64 x]] w fun e w' => e = .returned (.int .i64 (pointV s.data.toList x)) ∧ Below w.heap.size w w' := by
  have RA := Lib.hid (fun W => rright_any b s x W hs)
  have SZ := bytes_size s
  obtain ⟨l, hl⟩ : ∃ l, s.data.toList = l := ⟨_, rfl⟩
  rw [hl] at RA SZ ⊢
  clear hl
  cases ht : rightV l x with
  | true =>
    have RL := rightV_len ht
    have A : Hid (pointV l x = (s.size : Int) + x) := by unfold Hid pointV; rw [if_pos ht, SZ]
    rw [ht] at RA
    have w1 : IntKind.i64.wrap ((s.size : Int) + x) = (s.size : Int) + x := by rw [IntKind.wrap_i64]; omega
    clear ht SZ
    obtain ⟨W, hW, bx, hbW, sz⟩ := boxD1 w b s x
    have BX := Lib.hid (And.intro bx (And.intro hbW sz))
    obtain ⟨e0, e1, e2⟩ := bx
    clear hbW sz
    go_enter Tryd.func15, Tryd.ntmps15
    go_wp2_with fail
    refine (RA.out _).mono ?_
    rintro e w2 ⟨rfl, hb⟩
    have HB := Lib.hid (via BX.out.2.1 hb)
    clear e0 e1 e2
    obtain ⟨c0, c1, c2⟩ := BX.out.1.on hb BX.out.2.2
    clear hb
    go_wp2
    go_ret
    exact ⟨by rw [A.out]; rfl, HB.out⟩
  | false =>
    have A : Hid (pointV l x = 0) := by unfold Hid pointV; rw [if_neg (by rw [ht]; simp)]
    rw [ht] at RA
    clear ht SZ
    obtain ⟨W, hW, bx, hbW, sz⟩ := boxD1 w b s x
    have BX := Lib.hid (And.intro bx (And.intro hbW sz))
    obtain ⟨e0, e1, e2⟩ := bx
    clear hbW sz
    go_enter Tryd.func15, Tryd.ntmps15
    go_wp2_with fail
    refine (RA.out _).mono ?_
    rintro e w2 ⟨rfl, hb⟩
    have HB := Lib.hid (via BX.out.2.1 hb)
    clear e0 e1 e2
    obtain ⟨c0, c1, c2⟩ := BX.out.1.on hb BX.out.2.2
    clear hb
    go_wp2
    go_ret
    exact ⟨by rw [A.out]; rfl, HB.out⟩
theorem sign_any (b : Bool) (s : ByteArray) (x : Int) (w : World) :
    Calls Tryd.prog 31 #[.agg #[.bool b, .string s, .int .i64 x]] w fun e w' => e = .returned (.int .i64 (sgnV b s.data.toList)) ∧ Below w.heap.size w w' := by
  have SE : Hid (s.toList.isEmpty = s.data.toList.isEmpty) := bytes_empty s
  obtain ⟨l, hl⟩ : ∃ l, s.data.toList = l := ⟨_, rfl⟩
  rw [hl] at SE ⊢
  by_cases h0 : l = []
  · have e0 : s.toList.isEmpty = true := by rw [SE.out, h0]; rfl
    have A : Hid (sgnV b l = 0) := by unfold Hid sgnV; rw [if_pos h0]
    clear hl
    go_enter Tryd.func31, Tryd.ntmps31
    go_wp2
    go_ret
    exact ⟨by rw [A.out]; rfl, by (repeat' first | exact Below.refl _ _ | refine Below.alloc ?_ ?_ _ | refine Below.setCell ?_ ?_ _ | refine below_drewN ?_ _ | (simp; done) | (simp; omega))⟩
  · have e0 : s.toList.isEmpty = false := by rw [SE.out]; exact List.isEmpty_eq_false_iff.2 h0
    cases b with
    | true =>
      have A : Hid (sgnV true l = -1) := by unfold Hid sgnV; rw [if_neg h0]; rfl
      clear hl
      go_enter Tryd.func31, Tryd.ntmps31
      go_wp2
      go_ret
      exact ⟨by rw [A.out]; rfl, by (repeat' first | exact Below.refl _ _ | refine Below.alloc ?_ ?_ _ | refine Below.setCell ?_ ?_ _ | refine below_drewN ?_ _ | (simp; done) | (simp; omega))⟩
    | false =>
      have A : Hid (sgnV false l = 1) := by unfold Hid sgnV; rw [if_neg h0]; rfl
      clear hl
      go_enter Tryd.func31, Tryd.ntmps31
      go_wp2
      go_ret
      exact ⟨by rw [A.out]; rfl, by (repeat' first | exact Below.refl _ _ | refine Below.alloc ?_ ?_ _ | refine Below.setCell ?_ ?_ _ | refine below_drewN ?_ _ | (simp; done) | (simp; omega))⟩
end Go.Proofs.YtgjhpcmpgkfnkaaDoor
