/-
  The document's decimals: less: walked; what is rounded, plainly.
-/
import Derived.Test.YtgjhpcmpgkfnkaaDoorA22
import Derived.Lib.ConvBytes
namespace Go.Proofs.YtgjhpcmpgkfnkaaDoor
open Go.RowKit Go.Shelf

def lessUp (b : Bool) (way : Int) : Bool := decide (way = 3) || (decide (way = 4) && b) || (decide (way = 5) && !b)
theorem up_neg (b : Bool) (l : List UInt8) (way : Int) (hw : wayV way = true) : upV b [] (48 :: l) way = lessUp b way := by
  have h := of_decide_eq_true hw
  have c : Lib.compareBytes (48 :: l) [53] = -1 := by unfold Lib.compareBytes; rw [if_pos (by decide)]
  have hs : way = 0 ∨ way = 1 ∨ way = 2 ∨ way = 3 ∨ way = 4 ∨ way = 5 := by omega
  unfold upV lessUp
  rw [c]
  rcases hs with rfl | rfl | rfl | rfl | rfl | rfl <;> cases b <;> rfl
theorem rnd_neg (b : Bool) (l : List UInt8) (x n way : Int) (hn : n < 0) (hl : l ≠ []) (hw : wayV way = true) :
    rndV b l x n way = if lessUp b way = true then makeV b [49] (x + l.length - n) else (decV b [] 0, 0) := by
  have k : keptV l n = [] := if_neg (by omega)
  have r : restV l n = 48 :: l := if_neg (by omega)
  have nv : newV b l n way = if lessUp b way = true then [49] else [] := by
    unfold newV; rw [k, r, up_neg b l way hw]; rfl
  have e : rndV b l x n way = makeV b (newV b l n way) (x + l.length - n) := if_neg (fun e => e.elim (fun h => by omega) hl)
  rw [e, nv]
  cases lessUp b way <;> rfl
set_option maxRecDepth 100000 in
set_option maxHeartbeats 8000000 in
theorem less_any (b : Bool) (s : ByteArray) (x n way : Int) (w : World) (hn : -1000000 ≤ n ∧ n ≤ 1000000) (hw : wayV way = true) :
    Calls Tryd.prog 37 #[.agg #[.bool b, .string s, .int .i64 x], .int .i64 n, .int .i64 way] w (MakePost (if lessUp b way = true then makeV b [49] (-n) else (decV b [] 0, 0)) w) := by
  have h := of_decide_eq_true hw
  have hs : way = 0 ∨ way = 1 ∨ way = 2 ∨ way = 3 ∨ way = 4 ∨ way = 5 := by omega
  have a1 : IntKind.i64.wrap (-n) = -n := by rw [IntKind.wrap_i64]; omega
  have MK := Lib.hid (fun W => rmake_any b ⟨#[49]⟩ (-n) W (by decide) (by omega) (by omega))
  obtain ⟨c, q, y, er, hp⟩ := makeV_parts b (⟨#[49]⟩ : ByteArray).data.toList (-n)
  have hp2 : makeV b [49] (-n) = (.agg #[.bool c, .string q, .int .i64 y], er) := hp
  rw [hp] at MK
  rw [hp2]
  obtain ⟨X, hX⟩ : ∃ X, -n = X := ⟨_, rfl⟩
  rw [hX] at MK
  replace a1 := a1.trans hX
  clear hp hp2 hX h hw hn
  obtain ⟨W, hW, ⟨e0, e1, e2⟩, ⟨f0, f1, f2⟩, ff, hbW, sz⟩ := boxDW w b s x
  have KS : Hid (∀ A Z : World, ((A.cell? ⟨w.heap.size, 0, none⟩ = some (.bool b) ∧ A.cell? ⟨w.heap.size, 1, none⟩ = some (.string s) ∧ A.cell? ⟨w.heap.size, 2, none⟩ = some (.int .i64 x) ∧ A.cell? ⟨w.heap.size + 1, 0, none⟩ = some (.bool false) ∧ A.cell? ⟨w.heap.size + 1, 1, none⟩ = some (.string ⟨#[]⟩) ∧ A.cell? ⟨w.heap.size + 1, 2, none⟩ = some (.int .i64 0) ∧ A.frozen? ⟨w.heap.size + 1, 0, none⟩ = false ∧ A.frozen? ⟨w.heap.size + 1, 1, none⟩ = false ∧ A.frozen? ⟨w.heap.size + 1, 2, none⟩ = false) ∧ ((w.heap.size < A.heap.size ∧ w.heap.size + 1 < A.heap.size) ∧ Below w.heap.size w A)) → Below A.heap.size A Z → ((Z.cell? ⟨w.heap.size, 0, none⟩ = some (.bool b) ∧ Z.cell? ⟨w.heap.size, 1, none⟩ = some (.string s) ∧ Z.cell? ⟨w.heap.size, 2, none⟩ = some (.int .i64 x) ∧ Z.cell? ⟨w.heap.size + 1, 0, none⟩ = some (.bool false) ∧ Z.cell? ⟨w.heap.size + 1, 1, none⟩ = some (.string ⟨#[]⟩) ∧ Z.cell? ⟨w.heap.size + 1, 2, none⟩ = some (.int .i64 0) ∧ Z.frozen? ⟨w.heap.size + 1, 0, none⟩ = false ∧ Z.frozen? ⟨w.heap.size + 1, 1, none⟩ = false ∧ Z.frozen? ⟨w.heap.size + 1, 2, none⟩ = false) ∧ ((w.heap.size < Z.heap.size ∧ w.heap.size + 1 < Z.heap.size) ∧ Below w.heap.size w Z))) := by
    rintro A Z ⟨⟨h0, h1, h2, h3, h4, h5, h6, h7, h8⟩, ⟨l0, l1⟩, hb⟩ hx
    have hz := hx.size
    refine ⟨⟨(hx.cell (p := ⟨w.heap.size, 0, none⟩) l0).trans h0, (hx.cell (p := ⟨w.heap.size, 1, none⟩) l0).trans h1, (hx.cell (p := ⟨w.heap.size, 2, none⟩) l0).trans h2, (hx.cell (p := ⟨w.heap.size + 1, 0, none⟩) l1).trans h3, (hx.cell (p := ⟨w.heap.size + 1, 1, none⟩) l1).trans h4, (hx.cell (p := ⟨w.heap.size + 1, 2, none⟩) l1).trans h5, froz_onB h6 hx l1, froz_onB h7 hx l1, froz_onB h8 hx l1⟩, ⟨by omega, by omega⟩, via hb hx⟩
  have ST : Hid ((W.cell? ⟨w.heap.size, 0, none⟩ = some (.bool b) ∧ W.cell? ⟨w.heap.size, 1, none⟩ = some (.string s) ∧ W.cell? ⟨w.heap.size, 2, none⟩ = some (.int .i64 x) ∧ W.cell? ⟨w.heap.size + 1, 0, none⟩ = some (.bool false) ∧ W.cell? ⟨w.heap.size + 1, 1, none⟩ = some (.string ⟨#[]⟩) ∧ W.cell? ⟨w.heap.size + 1, 2, none⟩ = some (.int .i64 0) ∧ W.frozen? ⟨w.heap.size + 1, 0, none⟩ = false ∧ W.frozen? ⟨w.heap.size + 1, 1, none⟩ = false ∧ W.frozen? ⟨w.heap.size + 1, 2, none⟩ = false) ∧ ((w.heap.size < W.heap.size ∧ w.heap.size + 1 < W.heap.size) ∧ Below w.heap.size w W)) := ⟨⟨e0, e1, e2, f0, f1, f2, ff 0, ff 1, ff 2⟩, ⟨by omega, by omega⟩, hbW⟩
  clear hbW sz e0 e1 e2 f0 f1 f2 ff
  rcases hs with rfl | rfl | rfl | rfl | rfl | rfl
  · cases b
    · have A : Hid ((if lessUp false 0 = true then ((.agg #[.bool c, .string q, .int .i64 y], er) : Value × Int) else (decV false [] 0, 0)) = (decV false [] 0, 0)) := rfl
      obtain ⟨⟨z0, z1, z2, z3, z4, z5, z6, z7, z8⟩, zl, zB⟩ := ST.out
      clear zl zB
      generalize hT : (if lessUp false 0 = true then ((.agg #[.bool c, .string q, .int .i64 y], er) : Value × Int) else (decV false [] 0, 0)) = T at *
      clear hT
      go_enter Tryd.func37, Tryd.ntmps37
      go_wp2
      refine bodyPost_ret (v := .tuple #[.agg #[.bool false, .string ⟨#[]⟩, .int .i64 0], .int .i64 0]) (by simp [results, Tryd.results37, go_sem, *]) rfl ⟨by rw [A.out] <;> rfl, ?_⟩
      have hB := ST.out.2.2
      (repeat' first | exact Below.refl _ _ | assumption | refine Below.drew ?_ | refine Below.alloc ?_ ?_ _ | refine Below.setCell ?_ ?_ _ | refine below_drewN ?_ _ | (simp; done) | omega | (simp; omega))
    · have A : Hid ((if lessUp true 0 = true then ((.agg #[.bool c, .string q, .int .i64 y], er) : Value × Int) else (decV true [] 0, 0)) = (decV true [] 0, 0)) := rfl
      obtain ⟨⟨z0, z1, z2, z3, z4, z5, z6, z7, z8⟩, zl, zB⟩ := ST.out
      clear zl zB
      generalize hT : (if lessUp true 0 = true then ((.agg #[.bool c, .string q, .int .i64 y], er) : Value × Int) else (decV true [] 0, 0)) = T at *
      clear hT
      go_enter Tryd.func37, Tryd.ntmps37
      go_wp2
      refine bodyPost_ret (v := .tuple #[.agg #[.bool true, .string ⟨#[]⟩, .int .i64 0], .int .i64 0]) (by simp [results, Tryd.results37, go_sem, *]) rfl ⟨by rw [A.out] <;> rfl, ?_⟩
      have hB := ST.out.2.2
      (repeat' first | exact Below.refl _ _ | assumption | refine Below.drew ?_ | refine Below.alloc ?_ ?_ _ | refine Below.setCell ?_ ?_ _ | refine below_drewN ?_ _ | (simp; done) | omega | (simp; omega))
  · cases b
    · have A : Hid ((if lessUp false 1 = true then ((.agg #[.bool c, .string q, .int .i64 y], er) : Value × Int) else (decV false [] 0, 0)) = (decV false [] 0, 0)) := rfl
      obtain ⟨⟨z0, z1, z2, z3, z4, z5, z6, z7, z8⟩, zl, zB⟩ := ST.out
      clear zl zB
      generalize hT : (if lessUp false 1 = true then ((.agg #[.bool c, .string q, .int .i64 y], er) : Value × Int) else (decV false [] 0, 0)) = T at *
      clear hT
      go_enter Tryd.func37, Tryd.ntmps37
      go_wp2
      refine bodyPost_ret (v := .tuple #[.agg #[.bool false, .string ⟨#[]⟩, .int .i64 0], .int .i64 0]) (by simp [results, Tryd.results37, go_sem, *]) rfl ⟨by rw [A.out] <;> rfl, ?_⟩
      have hB := ST.out.2.2
      (repeat' first | exact Below.refl _ _ | assumption | refine Below.drew ?_ | refine Below.alloc ?_ ?_ _ | refine Below.setCell ?_ ?_ _ | refine below_drewN ?_ _ | (simp; done) | omega | (simp; omega))
    · have A : Hid ((if lessUp true 1 = true then ((.agg #[.bool c, .string q, .int .i64 y], er) : Value × Int) else (decV true [] 0, 0)) = (decV true [] 0, 0)) := rfl
      obtain ⟨⟨z0, z1, z2, z3, z4, z5, z6, z7, z8⟩, zl, zB⟩ := ST.out
      clear zl zB
      generalize hT : (if lessUp true 1 = true then ((.agg #[.bool c, .string q, .int .i64 y], er) : Value × Int) else (decV true [] 0, 0)) = T at *
      clear hT
      go_enter Tryd.func37, Tryd.ntmps37
      go_wp2
      refine bodyPost_ret (v := .tuple #[.agg #[.bool true, .string ⟨#[]⟩, .int .i64 0], .int .i64 0]) (by simp [results, Tryd.results37, go_sem, *]) rfl ⟨by rw [A.out] <;> rfl, ?_⟩
      have hB := ST.out.2.2
      (repeat' first | exact Below.refl _ _ | assumption | refine Below.drew ?_ | refine Below.alloc ?_ ?_ _ | refine Below.setCell ?_ ?_ _ | refine below_drewN ?_ _ | (simp; done) | omega | (simp; omega))
  · cases b
    · have A : Hid ((if lessUp false 2 = true then ((.agg #[.bool c, .string q, .int .i64 y], er) : Value × Int) else (decV false [] 0, 0)) = (decV false [] 0, 0)) := rfl
      obtain ⟨⟨z0, z1, z2, z3, z4, z5, z6, z7, z8⟩, zl, zB⟩ := ST.out
      clear zl zB
      generalize hT : (if lessUp false 2 = true then ((.agg #[.bool c, .string q, .int .i64 y], er) : Value × Int) else (decV false [] 0, 0)) = T at *
      clear hT
      go_enter Tryd.func37, Tryd.ntmps37
      go_wp2
      refine bodyPost_ret (v := .tuple #[.agg #[.bool false, .string ⟨#[]⟩, .int .i64 0], .int .i64 0]) (by simp [results, Tryd.results37, go_sem, *]) rfl ⟨by rw [A.out] <;> rfl, ?_⟩
      have hB := ST.out.2.2
      (repeat' first | exact Below.refl _ _ | assumption | refine Below.drew ?_ | refine Below.alloc ?_ ?_ _ | refine Below.setCell ?_ ?_ _ | refine below_drewN ?_ _ | (simp; done) | omega | (simp; omega))
    · have A : Hid ((if lessUp true 2 = true then ((.agg #[.bool c, .string q, .int .i64 y], er) : Value × Int) else (decV true [] 0, 0)) = (decV true [] 0, 0)) := rfl
      obtain ⟨⟨z0, z1, z2, z3, z4, z5, z6, z7, z8⟩, zl, zB⟩ := ST.out
      clear zl zB
      generalize hT : (if lessUp true 2 = true then ((.agg #[.bool c, .string q, .int .i64 y], er) : Value × Int) else (decV true [] 0, 0)) = T at *
      clear hT
      go_enter Tryd.func37, Tryd.ntmps37
      go_wp2
      refine bodyPost_ret (v := .tuple #[.agg #[.bool true, .string ⟨#[]⟩, .int .i64 0], .int .i64 0]) (by simp [results, Tryd.results37, go_sem, *]) rfl ⟨by rw [A.out] <;> rfl, ?_⟩
      have hB := ST.out.2.2
      (repeat' first | exact Below.refl _ _ | assumption | refine Below.drew ?_ | refine Below.alloc ?_ ?_ _ | refine Below.setCell ?_ ?_ _ | refine below_drewN ?_ _ | (simp; done) | omega | (simp; omega))
  · cases b
    · have A : Hid ((if lessUp false 3 = true then ((.agg #[.bool c, .string q, .int .i64 y], er) : Value × Int) else (decV false [] 0, 0)) = (.agg #[.bool c, .string q, .int .i64 y], er)) := rfl
      obtain ⟨⟨z0, z1, z2, z3, z4, z5, z6, z7, z8⟩, zl, zB⟩ := ST.out
      clear zl zB
      generalize hT : (if lessUp false 3 = true then ((.agg #[.bool c, .string q, .int .i64 y], er) : Value × Int) else (decV false [] 0, 0)) = T at *
      clear hT
      go_enter Tryd.func37, Tryd.ntmps37
      go_wp2_with fail
      refine (MK.out _).mono ?_
      rintro e w1x ⟨rfl, hb⟩
      have ST1 := Lib.hid (KS.out _ _ ST.out hb)
      clear hb
      clear z0 z1 z2 z3 z4 z5 z6 z7 z8
      obtain ⟨⟨z0, z1, z2, z3, z4, z5, z6, z7, z8⟩, zl, zB⟩ := ST1.out
      clear zl zB
      go_wp2
      refine bodyPost_ret (v := .tuple #[.agg #[.bool c, .string q, .int .i64 y], .int .i64 er]) (by simp [results, Tryd.results37, go_sem, *]) rfl ⟨by rw [A.out] <;> rfl, ?_⟩
      have hB := ST1.out.2.2
      (repeat' first | exact Below.refl _ _ | assumption | refine Below.drew ?_ | refine Below.alloc ?_ ?_ _ | refine Below.setCell ?_ ?_ _ | refine below_drewN ?_ _ | (simp; done) | omega | (simp; omega))
    · have A : Hid ((if lessUp true 3 = true then ((.agg #[.bool c, .string q, .int .i64 y], er) : Value × Int) else (decV true [] 0, 0)) = (.agg #[.bool c, .string q, .int .i64 y], er)) := rfl
      obtain ⟨⟨z0, z1, z2, z3, z4, z5, z6, z7, z8⟩, zl, zB⟩ := ST.out
      clear zl zB
      generalize hT : (if lessUp true 3 = true then ((.agg #[.bool c, .string q, .int .i64 y], er) : Value × Int) else (decV true [] 0, 0)) = T at *
      clear hT
      go_enter Tryd.func37, Tryd.ntmps37
      go_wp2_with fail
      refine (MK.out _).mono ?_
      rintro e w1x ⟨rfl, hb⟩
      have ST1 := Lib.hid (KS.out _ _ ST.out hb)
      clear hb
      clear z0 z1 z2 z3 z4 z5 z6 z7 z8
      obtain ⟨⟨z0, z1, z2, z3, z4, z5, z6, z7, z8⟩, zl, zB⟩ := ST1.out
      clear zl zB
      go_wp2
      refine bodyPost_ret (v := .tuple #[.agg #[.bool c, .string q, .int .i64 y], .int .i64 er]) (by simp [results, Tryd.results37, go_sem, *]) rfl ⟨by rw [A.out] <;> rfl, ?_⟩
      have hB := ST1.out.2.2
      (repeat' first | exact Below.refl _ _ | assumption | refine Below.drew ?_ | refine Below.alloc ?_ ?_ _ | refine Below.setCell ?_ ?_ _ | refine below_drewN ?_ _ | (simp; done) | omega | (simp; omega))
  · cases b
    · have A : Hid ((if lessUp false 4 = true then ((.agg #[.bool c, .string q, .int .i64 y], er) : Value × Int) else (decV false [] 0, 0)) = (decV false [] 0, 0)) := rfl
      obtain ⟨⟨z0, z1, z2, z3, z4, z5, z6, z7, z8⟩, zl, zB⟩ := ST.out
      clear zl zB
      generalize hT : (if lessUp false 4 = true then ((.agg #[.bool c, .string q, .int .i64 y], er) : Value × Int) else (decV false [] 0, 0)) = T at *
      clear hT
      go_enter Tryd.func37, Tryd.ntmps37
      go_wp2
      refine bodyPost_ret (v := .tuple #[.agg #[.bool false, .string ⟨#[]⟩, .int .i64 0], .int .i64 0]) (by simp [results, Tryd.results37, go_sem, *]) rfl ⟨by rw [A.out] <;> rfl, ?_⟩
      have hB := ST.out.2.2
      (repeat' first | exact Below.refl _ _ | assumption | refine Below.drew ?_ | refine Below.alloc ?_ ?_ _ | refine Below.setCell ?_ ?_ _ | refine below_drewN ?_ _ | (simp; done) | omega | (simp; omega))
    · have A : Hid ((if lessUp true 4 = true then ((.agg #[.bool c, .string q, .int .i64 y], er) : Value × Int) else (decV true [] 0, 0)) = (.agg #[.bool c, .string q, .int .i64 y], er)) := rfl
      obtain ⟨⟨z0, z1, z2, z3, z4, z5, z6, z7, z8⟩, zl, zB⟩ := ST.out
      clear zl zB
      generalize hT : (if lessUp true 4 = true then ((.agg #[.bool c, .string q, .int .i64 y], er) : Value × Int) else (decV true [] 0, 0)) = T at *
      clear hT
      go_enter Tryd.func37, Tryd.ntmps37
      go_wp2_with fail
      refine (MK.out _).mono ?_
      rintro e w1x ⟨rfl, hb⟩
      have ST1 := Lib.hid (KS.out _ _ ST.out hb)
      clear hb
      clear z0 z1 z2 z3 z4 z5 z6 z7 z8
      obtain ⟨⟨z0, z1, z2, z3, z4, z5, z6, z7, z8⟩, zl, zB⟩ := ST1.out
      clear zl zB
      go_wp2
      refine bodyPost_ret (v := .tuple #[.agg #[.bool c, .string q, .int .i64 y], .int .i64 er]) (by simp [results, Tryd.results37, go_sem, *]) rfl ⟨by rw [A.out] <;> rfl, ?_⟩
      have hB := ST1.out.2.2
      (repeat' first | exact Below.refl _ _ | assumption | refine Below.drew ?_ | refine Below.alloc ?_ ?_ _ | refine Below.setCell ?_ ?_ _ | refine below_drewN ?_ _ | (simp; done) | omega | (simp; omega))
  · cases b
    · have A : Hid ((if lessUp false 5 = true then ((.agg #[.bool c, .string q, .int .i64 y], er) : Value × Int) else (decV false [] 0, 0)) = (.agg #[.bool c, .string q, .int .i64 y], er)) := rfl
      obtain ⟨⟨z0, z1, z2, z3, z4, z5, z6, z7, z8⟩, zl, zB⟩ := ST.out
      clear zl zB
      generalize hT : (if lessUp false 5 = true then ((.agg #[.bool c, .string q, .int .i64 y], er) : Value × Int) else (decV false [] 0, 0)) = T at *
      clear hT
      go_enter Tryd.func37, Tryd.ntmps37
      go_wp2_with fail
      refine (MK.out _).mono ?_
      rintro e w1x ⟨rfl, hb⟩
      have ST1 := Lib.hid (KS.out _ _ ST.out hb)
      clear hb
      clear z0 z1 z2 z3 z4 z5 z6 z7 z8
      obtain ⟨⟨z0, z1, z2, z3, z4, z5, z6, z7, z8⟩, zl, zB⟩ := ST1.out
      clear zl zB
      go_wp2
      refine bodyPost_ret (v := .tuple #[.agg #[.bool c, .string q, .int .i64 y], .int .i64 er]) (by simp [results, Tryd.results37, go_sem, *]) rfl ⟨by rw [A.out] <;> rfl, ?_⟩
      have hB := ST1.out.2.2
      (repeat' first | exact Below.refl _ _ | assumption | refine Below.drew ?_ | refine Below.alloc ?_ ?_ _ | refine Below.setCell ?_ ?_ _ | refine below_drewN ?_ _ | (simp; done) | omega | (simp; omega))
    · have A : Hid ((if lessUp true 5 = true then ((.agg #[.bool c, .string q, .int .i64 y], er) : Value × Int) else (decV true [] 0, 0)) = (decV true [] 0, 0)) := rfl
      obtain ⟨⟨z0, z1, z2, z3, z4, z5, z6, z7, z8⟩, zl, zB⟩ := ST.out
      clear zl zB
      generalize hT : (if lessUp true 5 = true then ((.agg #[.bool c, .string q, .int .i64 y], er) : Value × Int) else (decV true [] 0, 0)) = T at *
      clear hT
      go_enter Tryd.func37, Tryd.ntmps37
      go_wp2
      refine bodyPost_ret (v := .tuple #[.agg #[.bool true, .string ⟨#[]⟩, .int .i64 0], .int .i64 0]) (by simp [results, Tryd.results37, go_sem, *]) rfl ⟨by rw [A.out] <;> rfl, ?_⟩
      have hB := ST.out.2.2
      (repeat' first | exact Below.refl _ _ | assumption | refine Below.drew ?_ | refine Below.alloc ?_ ?_ _ | refine Below.setCell ?_ ?_ _ | refine below_drewN ?_ _ | (simp; done) | omega | (simp; omega))
end Go.Proofs.YtgjhpcmpgkfnkaaDoor
