/-
  Package decimal and the document's decimals: a text of digits: walked.
-/
import Derived.Test.YtgjhpcmpgkfnkaaDoorRows
import Derived.Test.YtgjhpcmpgkfnkaaDoorShelf
import Derived.Test.YtgjhpcmpgkfnkaaDoorA1
import Derived.WalkKit
import Derived.BigQuiet
import Derived.BigRegion
import Derived.Deep.QuietTactic
import Derived.Deep.RegionWith
import Derived.Lib.Hide
import Derived.Lib.SmallJoins
namespace Go.Proofs.YtgjhpcmpgkfnkaaDoor
open Go.RowKit Go.Shelf

theorem bytes_size (s : ByteArray) : s.size = s.data.toList.length := Lib.size_eq s
theorem bytes_get (s : ByteArray) (k : Nat) (h : k < s.size) : s[k]'h = s.data.toList[k]'(by rw [← bytes_size]; exact h) := by
  show s.data[k] = _
  simp
theorem bytes_empty (s : ByteArray) : s.toList.isEmpty = s.data.toList.isEmpty := by
  rw [Lib.toList_data]
/-- The byte at a place, 0 behind the end. -/
def B (l : List UInt8) (k : Nat) : Int := ((l.getD k 0).toNat : Int)
theorem B_get {s : ByteArray} {l : List UInt8} (hl : s.data.toList = l) {k : Nat} (h : k < s.size) : ((s[k]'h).toNat : Int) = B l k := by
  subst hl
  rw [bytes_get]; unfold B
  rw [List.getD_eq_getElem?_getD, List.getElem?_eq_getElem (by rw [← bytes_size]; exact h)]; rfl
theorem B_range (l : List UInt8) (k : Nat) : 0 ≤ B l k ∧ B l k < 256 := by
  unfold B; have := (l.getD k 0).toNat_lt; omega
/-- A byte that is no digit, so the text is none. -/
theorem digs_f {l : List UInt8} {k : Nat} (hk : k < l.length) (h : ¬ (48 ≤ B l k ∧ B l k ≤ 57)) : l.all dgB = false := by
  rw [List.all_eq_false]
  refine ⟨l[k], List.getElem_mem hk, fun e => h ?_⟩
  have := dgB_le e
  unfold B
  rw [List.getD_eq_getElem?_getD, List.getElem?_eq_getElem hk]
  show 48 ≤ ((l[k]).toNat : Int) ∧ ((l[k]).toNat : Int) ≤ 57
  omega
theorem digs_t {l : List UInt8} (h : ∀ k : Nat, k < l.length → 48 ≤ B l k ∧ B l k ≤ 57) : l.all dgB = true := by
  rw [List.all_eq_true]
  intro x hx
  obtain ⟨k, hk, rfl⟩ := List.getElem_of_mem hx
  have := h k hk
  unfold B at this
  rw [List.getD_eq_getElem?_getD, List.getElem?_eq_getElem hk] at this
  have t2 : 48 ≤ ((l[k]).toNat : Int) ∧ ((l[k]).toNat : Int) ≤ 57 := this
  exact decide_eq_true (by omega)
end Go.Proofs.YtgjhpcmpgkfnkaaDoor
