/-
  Package decimal: a numeral as it is read: digit, take: walked.
-/
import Derived.Test.YtgjhpcmpgkfnkaaDoorA16
import Derived.Laws.IdiomStrings
namespace Go.Proofs.YtgjhpcmpgkfnkaaDoor
open Go.RowKit Go.Shelf

theorem Tryd.infoB : (Tryd.prog.info? 5).map (fun i => (i.zero, i.size, i.bytes)) = some (some (.int .u8 0), 1, 1) := by kernel_rfl
theorem u8_oneCell (l : List Int) : ∀ u ∈ l.map (Value.int .u8), u.oneCell' = true := fun u hu => by
  obtain ⟨x, _, rfl⟩ := List.mem_map.1 hu; rfl
theorem info_partsB : ∃ i0, Tryd.prog.info? 5 = some i0 ∧ i0.zero = some (.int .u8 0) ∧ i0.size = 1 ∧ i0.bytes = 1 := by
  have h := Tryd.infoB
  cases hi : Tryd.prog.info? 5 with
  | none => rw [hi] at h; cases h
  | some i0 => rw [hi] at h; simp at h; exact ⟨i0, rfl, h.1, h.2.1, h.2.2⟩
theorem wpList_appB1 {w : World} {ops : Array Oper} {rest : List Oper} {o : Oper} {a : Act} {Q : Exit → Act → World → Prop} (hgd : o.guard = none) (s x : Operand)
    (ho : o.op = .call { callee := .builtin .append, args := #[s, x], argTypes := #[43, 43] })
    (base : Nat) (v : Value) (n : Nat) (l : List Int) (y : Int) (hown : w.ownsRow base 5 1 v n (l.map (Value.int .u8))) (hs : a.eval s = v)
    (hx : a.eval x = .slice (some ⟨w.heap.size, 0, none⟩) 1 1) (hb : n + 1 ≤ 2000000000) (hbase : base ≤ w.heap.size)
    (h : ∀ v' w', w'.ownsRow base 5 1 v' (n + 1) ((l ++ [y]).map (Value.int .u8)) → Below base w w' → wpList Tryd.prog ops Q rest (a.put o.dst v') w') : wpList Tryd.prog ops Q (o :: rest) a (w.alloc (.cells #[.int .u8 y] 5)) := by
  have h1 : Below base w (w.alloc (.cells #[.int .u8 y] 5)) := (Below.refl _ _).alloc hbase _
  obtain ⟨i0, hi, hz0, hz1, hz2⟩ := info_partsB
  refine wpList_append_own _ hgd s x 43 ho base 5 i0 (.int .u8 0) 1 1 Tryd.underlying43 hi hz0 hz1 hz2 rfl (by decide) v n _ hs (hown.alloc _) ⟨w.heap.size, 0, none⟩ 1 1 ([y].map (Value.int .u8)) hx rfl ?_ (u8_oneCell _) (by unfold maxLen; omega) (by omega) (by simp; omega) ?_
  · intro j u hu
    obtain ⟨hj, rfl⟩ := List.getElem?_eq_some_iff.1 hu
    have : j = 0 := by simpa using hj
    subst this
    rw [Addr.add_lit, World.cell?_alloc_at _ _ _ _ rfl]; rfl
  · intro v' w' h3 h2 _
    refine h v' w' (by rw [List.map_append]; exact h3) ?_
    exact h1.trans ((Below.refl _ _).grown h2 (by simp; omega) (fun k hk => (hown.lt k hk).1))
/-- A row lies as it lay where blocks below it are written. -/
theorem row_setlow {w : World} {base e n b j : Nat} {v u : Value} {xs : List Value} (h : w.ownsRow base e 1 v n xs) (hb : b < base) : (w.setCell ⟨b, j, none⟩ u).ownsRow base e 1 v n xs := by
  refine ⟨h.1, ?_⟩
  rcases h.2 with z | ⟨g', cap, cur, rfl, h1, h2, h3⟩
  · exact .inl z
  · refine .inr ⟨g', cap, cur, rfl, h1, ?_, h3⟩
    rw [Below.heap_setCell _ _ _ _ (by simp; omega)]; exact h2
/-- What has been read of a numeral. -/
structure NSt where
  st : Int
  ng : Bool
  ds : List UInt8
  pl : Int
  ne : Bool
  ex : Int
  ec : Int
/-- Its box. -/
structure NC (W : World) (nb : Nat) (st : Int) (ng : Bool) (v : Value) (pl : Int) (ne : Bool) (ex : Int) (ec : Int) : Prop where
  c0 : W.cell? ⟨nb, 0, none⟩ = some (.int .i64 st)
  c1 : W.cell? ⟨nb, 1, none⟩ = some (.bool ng)
  c2 : W.cell? ⟨nb, 2, none⟩ = some (v)
  c3 : W.cell? ⟨nb, 3, none⟩ = some (.int .i64 pl)
  c4 : W.cell? ⟨nb, 4, none⟩ = some (.bool ne)
  c5 : W.cell? ⟨nb, 5, none⟩ = some (.int .i64 ex)
  c6 : W.cell? ⟨nb, 6, none⟩ = some (.int .i64 ec)
  f : ∀ j : Nat, W.frozen? ⟨nb, j, none⟩ = false
theorem NC.on {W W' : World} {nb : Nat} {st : Int} {ng : Bool} {v : Value} {pl : Int} {ne : Bool} {ex : Int} {ec : Int} (h : NC W nb st ng v pl ne ex ec) {B : Nat} (hB : nb < B) (hb : Below B W W') : NC W' nb st ng v pl ne ex ec :=
  ⟨(hb.cell (p := ⟨nb, 0, none⟩) hB).trans h.c0, (hb.cell (p := ⟨nb, 1, none⟩) hB).trans h.c1, (hb.cell (p := ⟨nb, 2, none⟩) hB).trans h.c2, (hb.cell (p := ⟨nb, 3, none⟩) hB).trans h.c3, (hb.cell (p := ⟨nb, 4, none⟩) hB).trans h.c4, (hb.cell (p := ⟨nb, 5, none⟩) hB).trans h.c5, (hb.cell (p := ⟨nb, 6, none⟩) hB).trans h.c6, fun j => froz_onB (h.f j) hb hB⟩
theorem NC.set0 {W : World} {nb : Nat} {st : Int} {ng : Bool} {v : Value} {pl : Int} {ne : Bool} {ex : Int} {ec : Int} (h : NC W nb st ng v pl ne ex ec) (st' : Int) : NC (W.setCell ⟨nb, 0, none⟩ (.int .i64 st')) nb st' ng v pl ne ex ec :=
  ⟨World.cell?_setCell_same _ _ _ h.c0, by rw [World.cell?_setCell_other _ _ _ _ (by simp)]; exact h.c1, by rw [World.cell?_setCell_other _ _ _ _ (by simp)]; exact h.c2, by rw [World.cell?_setCell_other _ _ _ _ (by simp)]; exact h.c3, by rw [World.cell?_setCell_other _ _ _ _ (by simp)]; exact h.c4, by rw [World.cell?_setCell_other _ _ _ _ (by simp)]; exact h.c5, by rw [World.cell?_setCell_other _ _ _ _ (by simp)]; exact h.c6, fun j => by rw [World.frozen?_setCell]; exact h.f j⟩
theorem NC.set1 {W : World} {nb : Nat} {st : Int} {ng : Bool} {v : Value} {pl : Int} {ne : Bool} {ex : Int} {ec : Int} (h : NC W nb st ng v pl ne ex ec) (ng' : Bool) : NC (W.setCell ⟨nb, 1, none⟩ (.bool ng')) nb st ng' v pl ne ex ec :=
  ⟨by rw [World.cell?_setCell_other _ _ _ _ (by simp)]; exact h.c0, World.cell?_setCell_same _ _ _ h.c1, by rw [World.cell?_setCell_other _ _ _ _ (by simp)]; exact h.c2, by rw [World.cell?_setCell_other _ _ _ _ (by simp)]; exact h.c3, by rw [World.cell?_setCell_other _ _ _ _ (by simp)]; exact h.c4, by rw [World.cell?_setCell_other _ _ _ _ (by simp)]; exact h.c5, by rw [World.cell?_setCell_other _ _ _ _ (by simp)]; exact h.c6, fun j => by rw [World.frozen?_setCell]; exact h.f j⟩
theorem NC.set2 {W : World} {nb : Nat} {st : Int} {ng : Bool} {v : Value} {pl : Int} {ne : Bool} {ex : Int} {ec : Int} (h : NC W nb st ng v pl ne ex ec) (v' : Value) : NC (W.setCell ⟨nb, 2, none⟩ (v')) nb st ng v' pl ne ex ec :=
  ⟨by rw [World.cell?_setCell_other _ _ _ _ (by simp)]; exact h.c0, by rw [World.cell?_setCell_other _ _ _ _ (by simp)]; exact h.c1, World.cell?_setCell_same _ _ _ h.c2, by rw [World.cell?_setCell_other _ _ _ _ (by simp)]; exact h.c3, by rw [World.cell?_setCell_other _ _ _ _ (by simp)]; exact h.c4, by rw [World.cell?_setCell_other _ _ _ _ (by simp)]; exact h.c5, by rw [World.cell?_setCell_other _ _ _ _ (by simp)]; exact h.c6, fun j => by rw [World.frozen?_setCell]; exact h.f j⟩
theorem NC.set3 {W : World} {nb : Nat} {st : Int} {ng : Bool} {v : Value} {pl : Int} {ne : Bool} {ex : Int} {ec : Int} (h : NC W nb st ng v pl ne ex ec) (pl' : Int) : NC (W.setCell ⟨nb, 3, none⟩ (.int .i64 pl')) nb st ng v pl' ne ex ec :=
  ⟨by rw [World.cell?_setCell_other _ _ _ _ (by simp)]; exact h.c0, by rw [World.cell?_setCell_other _ _ _ _ (by simp)]; exact h.c1, by rw [World.cell?_setCell_other _ _ _ _ (by simp)]; exact h.c2, World.cell?_setCell_same _ _ _ h.c3, by rw [World.cell?_setCell_other _ _ _ _ (by simp)]; exact h.c4, by rw [World.cell?_setCell_other _ _ _ _ (by simp)]; exact h.c5, by rw [World.cell?_setCell_other _ _ _ _ (by simp)]; exact h.c6, fun j => by rw [World.frozen?_setCell]; exact h.f j⟩
theorem NC.set4 {W : World} {nb : Nat} {st : Int} {ng : Bool} {v : Value} {pl : Int} {ne : Bool} {ex : Int} {ec : Int} (h : NC W nb st ng v pl ne ex ec) (ne' : Bool) : NC (W.setCell ⟨nb, 4, none⟩ (.bool ne')) nb st ng v pl ne' ex ec :=
  ⟨by rw [World.cell?_setCell_other _ _ _ _ (by simp)]; exact h.c0, by rw [World.cell?_setCell_other _ _ _ _ (by simp)]; exact h.c1, by rw [World.cell?_setCell_other _ _ _ _ (by simp)]; exact h.c2, by rw [World.cell?_setCell_other _ _ _ _ (by simp)]; exact h.c3, World.cell?_setCell_same _ _ _ h.c4, by rw [World.cell?_setCell_other _ _ _ _ (by simp)]; exact h.c5, by rw [World.cell?_setCell_other _ _ _ _ (by simp)]; exact h.c6, fun j => by rw [World.frozen?_setCell]; exact h.f j⟩
theorem NC.set5 {W : World} {nb : Nat} {st : Int} {ng : Bool} {v : Value} {pl : Int} {ne : Bool} {ex : Int} {ec : Int} (h : NC W nb st ng v pl ne ex ec) (ex' : Int) : NC (W.setCell ⟨nb, 5, none⟩ (.int .i64 ex')) nb st ng v pl ne ex' ec :=
  ⟨by rw [World.cell?_setCell_other _ _ _ _ (by simp)]; exact h.c0, by rw [World.cell?_setCell_other _ _ _ _ (by simp)]; exact h.c1, by rw [World.cell?_setCell_other _ _ _ _ (by simp)]; exact h.c2, by rw [World.cell?_setCell_other _ _ _ _ (by simp)]; exact h.c3, by rw [World.cell?_setCell_other _ _ _ _ (by simp)]; exact h.c4, World.cell?_setCell_same _ _ _ h.c5, by rw [World.cell?_setCell_other _ _ _ _ (by simp)]; exact h.c6, fun j => by rw [World.frozen?_setCell]; exact h.f j⟩
theorem NC.set6 {W : World} {nb : Nat} {st : Int} {ng : Bool} {v : Value} {pl : Int} {ne : Bool} {ex : Int} {ec : Int} (h : NC W nb st ng v pl ne ex ec) (ec' : Int) : NC (W.setCell ⟨nb, 6, none⟩ (.int .i64 ec')) nb st ng v pl ne ex ec' :=
  ⟨by rw [World.cell?_setCell_other _ _ _ _ (by simp)]; exact h.c0, by rw [World.cell?_setCell_other _ _ _ _ (by simp)]; exact h.c1, by rw [World.cell?_setCell_other _ _ _ _ (by simp)]; exact h.c2, by rw [World.cell?_setCell_other _ _ _ _ (by simp)]; exact h.c3, by rw [World.cell?_setCell_other _ _ _ _ (by simp)]; exact h.c4, by rw [World.cell?_setCell_other _ _ _ _ (by simp)]; exact h.c5, World.cell?_setCell_same _ _ _ h.c6, fun j => by rw [World.frozen?_setCell]; exact h.f j⟩
theorem own_slice {w : World} {base e n : Nat} {v : Value} {xs : List Value} (h : w.ownsRow base e 1 v n xs) : ∃ A c, v = .slice A n c := by
  rcases h.2 with ⟨rfl, rfl⟩ | ⟨g', cap, cur, rfl, _⟩
  · exact ⟨_, _, rfl⟩
  · exact ⟨_, _, rfl⟩
def bI (l : List UInt8) : List Int := l.map (fun b => (b.toNat : Int))
/-- A numeral in the box nb, its digits in a row of the call's own. -/
def Num (W : World) (nb B : Nat) (σ : NSt) : Prop :=
  ∃ v, NC W nb σ.st σ.ng v σ.pl σ.ne σ.ex σ.ec ∧ W.ownsRow B 5 1 v σ.ds.length ((bI σ.ds).map (Value.int .u8)) ∧ B ≤ W.heap.size
/-- A digit. -/
def digS (σ : NSt) (z : Int) : Option NSt :=
  if σ.st = 0 then some { σ with st := 1, ds := σ.ds ++ [UInt8.ofNat z.toNat] }
  else if σ.st = 2 then some { σ with pl := σ.pl + 1, ds := σ.ds ++ [UInt8.ofNat z.toNat] }
  else if σ.st = 3 ∨ σ.st = 4 then (if σ.ec + 1 ≤ 9 then some { σ with st := 4, ex := σ.ex * 10 + (z - 48), ec := σ.ec + 1 } else none)
  else some { σ with ds := σ.ds ++ [UInt8.ofNat z.toNat] }
/-- A rune. -/
def takeS (σ : NSt) (z : Int) : Option NSt :=
  if 48 ≤ z ∧ z ≤ 57 then digS σ z
  else if z = 45 ∧ σ.st = 0 then some { σ with ng := true, st := 1 }
  else if z = 46 ∧ σ.st ≤ 1 then some { σ with st := 2 }
  else if (z = 101 ∨ z = 69) ∧ σ.st ≤ 2 then some { σ with st := 3 }
  else if (z = 43 ∨ z = 45) ∧ σ.st = 3 then some { σ with ne := decide (z = 45), st := 4 }
  else none
/-- What holds of it when n bytes have been read. -/
structure NOk (n : Nat) (σ : NSt) : Prop where
  s0 : 0 ≤ σ.st
  s4 : σ.st ≤ 4
  dl : σ.ds.length ≤ n
  p0 : 0 ≤ σ.pl
  p1 : σ.pl ≤ n
  c0 : 0 ≤ σ.ec
  c9 : σ.ec ≤ 9
  e0 : 0 ≤ σ.ex
  e9 : σ.ex ≤ 9999999999
  e1 : σ.ex < 10 ^ σ.ec.toNat
/-- The box and the row alone are written, of what was there. -/
structure Kp (nb B : Nat) (W W' : World) : Prop where
  os : W'.os = W.os
  tape : W'.tape = W.tape
  output : W'.output = W.output
  size : W.heap.size ≤ W'.heap.size
  block : ∀ k, k < B → k ≠ nb → W'.heap[k]? = W.heap[k]?
theorem Kp.refl (nb B : Nat) (W : World) : Kp nb B W W := ⟨rfl, rfl, rfl, Nat.le_refl _, fun _ _ _ => rfl⟩
theorem Kp.on {nb B : Nat} {W W' W2 : World} (h : Kp nb B W W') (hb : Below B W' W2) : Kp nb B W W2 :=
  ⟨hb.os.trans h.os, hb.tape.trans h.tape, hb.output.trans h.output, Nat.le_trans h.size hb.size, fun k h1 h2 => (hb.block k h1).trans (h.block k h1 h2)⟩
theorem Kp.set {nb B : Nat} {W W' : World} (h : Kp nb B W W') (j : Nat) (v : Value) : Kp nb B W (W'.setCell ⟨nb, j, none⟩ v) :=
  ⟨h.os, h.tape, h.output, by have := h.size; simpa [World.setCell] using this, fun k h1 h2 => (Below.heap_setCell _ _ _ _ h2).trans (h.block k h1 h2)⟩
theorem Kp.below {nb B : Nat} {W W' : World} (h : Kp nb B W W') (hB : nb < B) : Below nb W W' :=
  ⟨h.os, h.tape, h.output, h.size, fun k hk => h.block k (by omega) (by omega)⟩
def TakePost (nb B : Nat) (W : World) (r : Option NSt) (e : Ending) (W' : World) : Prop := Kp nb B W W' ∧ match r with | some σ => e = .returned (.bool true) ∧ Num W' nb B σ | none => e = .returned (.bool false)
theorem TakePost.some_ {nb B : Nat} {W W' : World} {r : Option NSt} {σ : NSt} {e : Ending} (h : r = some σ) (h1 : Kp nb B W W') (h2 : e = .returned (.bool true)) (h3 : Num W' nb B σ) : TakePost nb B W r e W' := by subst h; exact ⟨h1, h2, h3⟩
theorem TakePost.none_ {nb B : Nat} {W W' : World} {r : Option NSt} {e : Ending} (h : r = none) (h1 : Kp nb B W W') (h2 : e = .returned (.bool false)) : TakePost nb B W r e W' := by subst h; exact ⟨h1, h2⟩
theorem bI_app (l : List UInt8) (z : Int) (z0 : 0 ≤ z) (z1 : z < 256) : bI l ++ [z] = bI (l ++ [UInt8.ofNat z.toNat]) := by
  unfold bI; rw [List.map_append]
  have : ((UInt8.ofNat z.toNat).toNat : Int) = z := by rw [UInt8.toNat_ofNat']; omega
  rw [List.map_singleton, this]
end Go.Proofs.YtgjhpcmpgkfnkaaDoor
