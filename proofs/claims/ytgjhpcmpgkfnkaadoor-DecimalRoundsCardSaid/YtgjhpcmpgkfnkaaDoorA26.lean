/-
  The document's decimals: cut: walked.
-/
import Derived.Test.YtgjhpcmpgkfnkaaDoorA25
import Derived.Deep.CutBlock
import Derived.Deep.DeepCutAuto
namespace Go.Proofs.YtgjhpcmpgkfnkaaDoor
open Go.RowKit Go.Shelf

/-- A row of bytes, cell by cell. -/
structure RowC (W : World) (g m : Nat) (o : Nat → Int) : Prop where
  c : ∀ j : Nat, j < m → W.cell? ⟨g, j, none⟩ = some (.int .u8 (o j))
  f : ∀ j : Nat, j < m → W.frozen? ⟨g, j, none⟩ = false
theorem RowC.set {W : World} {g m : Nat} {o : Nat → Int} (h : RowC W g m o) (k : Nat) (hk : k < m) (v : Int) : RowC (W.setCell ⟨g, k, none⟩ (.int .u8 v)) g m (fun j => if j = k then v else o j) := by
  refine ⟨fun j hj => ?_, fun j hj => by rw [World.frozen?_setCell]; exact h.f j hj⟩
  by_cases e : j = k
  · subst e; rw [World.cell?_setCell_same _ _ _ (h.c j hj)]; simp
  · rw [World.cell?_setCell_other _ _ _ _ (by simp), h.c j hj]; simp [e]
theorem RowC.on {W W' : World} {g m n : Nat} {o : Nat → Int} (h : RowC W g m o) (hb : Below n W W') (hg : g < n) : RowC W' g m o :=
  ⟨fun j hj => (hb.cell (p := ⟨g, j, none⟩) hg).trans (h.c j hj), fun j hj => froz_onB (h.f j hj) hb hg⟩
theorem RowC.of {W : World} {K : ByteArray} {l : List UInt8} (hl : K.data.toList = l) : RowC (Lib.bytesWorld W 5 K) W.heap.size K.size (B l) := by
  subst hl
  refine ⟨fun j hj => Lib.bytesWorld_cell W 5 K j hj, fun j hj => ?_⟩
  unfold World.frozen?
  rw [show (Lib.bytesWorld W 5 K).heap[W.heap.size]? = _ from Lib.bytesWorld_at_new W 5 K]
  have : K.size ≤ (Lib.bytesCells W 5 K).size := by unfold Lib.bytesCells; simp
  simp; omega
theorem below_bytes (W : World) (K : ByteArray) : Below W.heap.size W (Lib.bytesWorld W 5 K) :=
  ⟨rfl, rfl, rfl, by rw [Lib.bytesWorld_size]; omega, fun k hk => Lib.bytesWorld_at_old W 5 K k hk⟩
/-- Half a unit against what is taken away. -/
theorem half_gt {r : List UInt8} (h : 53 < B r 0) (hr : r ≠ []) : Lib.compareBytes r [53] = 1 := by
  cases r with
  | nil => exact absurd rfl hr
  | cons a l =>
    have h2 : (53 : UInt8) < a := UInt8.lt_iff_toNat_lt.2 (by have : 53 < ((a.toNat : Nat) : Int) := h; show 53 < a.toNat; omega)
    have h3 : ¬ a < (53 : UInt8) := fun e => by have e1 := UInt8.lt_iff_toNat_lt.1 e; have e2 := UInt8.lt_iff_toNat_lt.1 h2; omega
    unfold Lib.compareBytes; rw [if_neg h3, if_pos h2]
theorem half_lt {r : List UInt8} (h : B r 0 < 53) (hr : r ≠ []) : Lib.compareBytes r [53] = -1 := by
  cases r with
  | nil => exact absurd rfl hr
  | cons a l =>
    have h2 : a < (53 : UInt8) := UInt8.lt_iff_toNat_lt.2 (by have : ((a.toNat : Nat) : Int) < 53 := h; show a.toNat < 53; omega)
    unfold Lib.compareBytes; rw [if_pos h2]
theorem half_eq {r : List UInt8} (h : B r 0 = 53) (hr : r ≠ []) : Lib.compareBytes r [53] = if 1 < r.length then 1 else 0 := by
  cases r with
  | nil => exact absurd rfl hr
  | cons a l =>
    have h2 : a = 53 := by
      have e : ((a.toNat : Nat) : Int) = 53 := h
      have : a.toNat = (53 : UInt8).toNat := by show a.toNat = 53; omega
      exact UInt8.toNat_inj.1 this
    subst h2
    unfold Lib.compareBytes
    rw [if_neg (by decide), if_neg (by decide)]
    cases l with
    | nil => rfl
    | cons b k => rw [if_pos (by simp)]; rfl
/-- Where the nines end. -/
theorem nines_at {k : List UInt8} {t : Nat} (ht : t ≤ k.length) (h1 : ∀ j : Nat, t ≤ j → j < k.length → B k j = 57) (h2 : 0 < t → B k (t - 1) ≠ 57) : Lib.trimRightB k 57 = k.take t := by
  have b57 : ∀ {b : UInt8}, (b.toNat : Int) = 57 → b = 57 := fun {b} h => by
    have : b.toNat = (57 : UInt8).toNat := by show b.toNat = 57; omega
    exact UInt8.toNat_inj.1 this
  refine Lib.trimRightB_take k 57 t ht (fun j b hj hb => ?_) (fun b h0 hb => ?_)
  · have hlen : j < k.length := by
      rcases Nat.lt_or_ge j k.length with h | h
      · exact h
      · rw [List.getElem?_eq_none h] at hb; cases hb
    have := h1 j hj hlen
    rw [B_some hb] at this; exact b57 this
  · intro e; subst e
    exact h2 h0 (by rw [B_some hb]; rfl)
theorem more_at {k : List UInt8} {t : Nat} (ht : t ≤ k.length) (h1 : ∀ j : Nat, t ≤ j → j < k.length → B k j = 57) (h2 : 0 < t → B k (t - 1) ≠ 57) :
    oneMoreV k = if t = 0 then 49 :: List.replicate k.length 48 else k.take (t - 1) ++ [UInt8.ofNat (B k (t - 1) + 1).toNat] ++ List.replicate (k.length - t) 48 := by
  have e := nines_at ht h1 h2
  have el : (Lib.trimRightB k 57).length = t := by rw [e, List.length_take]; omega
  unfold oneMoreV
  rw [el]
  by_cases h0 : t = 0
  · rw [if_pos (by rw [e, h0]; rfl), if_pos h0, h0]; rfl
  · have ne : Lib.trimRightB k 57 ≠ [] := fun z => h0 (by rw [z] at el; exact el.symm)
    rw [if_neg ne, if_neg h0, e, List.take_take, Nat.min_eq_left (by omega)]
    have eb : B (k.take t) (t - 1) = B k (t - 1) := by
      unfold B; rw [List.getD_eq_getElem?_getD, List.getD_eq_getElem?_getD, List.getElem?_take_of_lt (by omega)]
    rw [eb]
/-- The row behind the loop, as a list. -/
theorem row_more {k : List UInt8} {t j : Nat} (h0 : 0 < t) (ht : t ≤ k.length) (hj : j < k.length) (hd : B k (t - 1) < 255) : ∀ (h : j < (k.take (t - 1) ++ [UInt8.ofNat (B k (t - 1) + 1).toNat] ++ List.replicate (k.length - t) 48).length),
    (((k.take (t - 1) ++ [UInt8.ofNat (B k (t - 1) + 1).toNat] ++ List.replicate (k.length - t) 48)[j]'h).toNat : Int) = if j = t - 1 then B k (t - 1) + 1 else if t ≤ j then 48 else B k j := by
  intro h
  have r0 := (B_range k (t - 1)).1
  have l1 : (k.take (t - 1)).length = t - 1 := by rw [List.length_take]; omega
  by_cases e1 : j = t - 1
  · subst e1
    rw [if_pos rfl, List.getElem_append_left (by rw [List.length_append, l1]; simp), List.getElem_append_right (by omega)]
    simp only [l1, Nat.sub_self, List.getElem_cons_zero]
    rw [UInt8.toNat_ofNat']; omega
  · rw [if_neg e1]
    by_cases e2 : t ≤ j
    · rw [if_pos e2, List.getElem_append_right (by rw [List.length_append, l1]; simp; omega), List.getElem_replicate]; rfl
    · rw [if_neg e2, List.getElem_append_left (by rw [List.length_append, l1]; simp; omega), List.getElem_append_left (by omega), List.getElem_take, ← B_cons hj]
end Go.Proofs.YtgjhpcmpgkfnkaaDoor
