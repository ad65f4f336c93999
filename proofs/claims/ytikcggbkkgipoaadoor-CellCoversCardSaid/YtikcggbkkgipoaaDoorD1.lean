/-
  References as texts: bytes, letters, digits; dollar and letter: walked.
-/
import Derived.Test.YtikcggbkkgipoaaDoorA1
namespace Go.Proofs.YtikcggbkkgipoaaDoor
open Go.RowKit Go.Shelf

theorem bytes_size (s : ByteArray) : s.size = s.data.toList.length := Lib.size_eq s
theorem bytes_get (s : ByteArray) (k : Nat) (h : k < s.size) : s[k]'h = s.data.toList[k]'(by rw [← bytes_size]; exact h) := by
  show s.data[k] = _
  simp
theorem bytes_empty (s : ByteArray) : s.toList.isEmpty = s.data.toList.isEmpty := by
  rw [Lib.toList_data]
theorem extract_list (s : ByteArray) (o : Nat) : (s.extract o s.size).data.toList = s.data.toList.drop o := by
  rw [ByteArray.data_extract, Array.toList_extract, List.extract_eq_take_drop, List.take_of_length_le]
  rw [List.length_drop, bytes_size]; omega
/-- The byte at a place, 0 behind the end. -/
def B (l : List UInt8) (k : Nat) : Int := ((l.getD k 0).toNat : Int)
theorem B_get {s : ByteArray} {l : List UInt8} (hl : s.data.toList = l) {k : Nat} (h : k < s.size) : ((s[k]'h).toNat : Int) = B l k := by
  subst hl
  rw [bytes_get]; unfold B
  rw [List.getD_eq_getElem?_getD, List.getElem?_eq_getElem (by rw [← bytes_size]; exact h)]; rfl
theorem B_drop (l : List UInt8) (o k : Nat) : B (l.drop o) k = B l (o + k) := by
  unfold B; rw [List.getD_eq_getElem?_getD, List.getD_eq_getElem?_getD, List.getElem?_drop]
theorem B_range (l : List UInt8) (k : Nat) : 0 ≤ B l k ∧ B l k < 256 := by
  unfold B; have := (l.getD k 0).toNat_lt; omega
def isLet (z : Int) : Bool := decide ((65 ≤ z ∧ z ≤ 90) ∨ (97 ≤ z ∧ z ≤ 122))
def isDig (z : Int) : Bool := decide (48 ≤ z ∧ z ≤ 57)
/-- A letter's number, from 0 on, or -1. -/
def lv (z : Int) : Int := if 65 ≤ z ∧ z ≤ 90 then z - 65 else if 97 ≤ z ∧ z ≤ 122 then z - 97 else -1
theorem lv_let {z : Int} (h : isLet z = true) : 0 ≤ lv z ∧ lv z ≤ 25 := by
  unfold isLet at h; unfold lv
  have := of_decide_eq_true h
  split
  · omega
  · split <;> omega
theorem lv_not {z : Int} (h : isLet z = false) : lv z = -1 := by
  unfold isLet at h; unfold lv
  have := of_decide_eq_false h
  rw [if_neg (by omega), if_neg (by omega)]
/-- A dollar sign at the head. -/
def dolB (l : List UInt8) : Bool := !l.isEmpty && decide (B l 0 = 36)
def dolL (l : List UInt8) : List UInt8 := if dolB l = true then l.drop 1 else l
theorem dollar_any (s : ByteArray) (w : World) (hs : s.size ≤ 2000) :
    Calls Tryd.prog 31 #[.string s] w fun e w' => (∃ S : ByteArray, e = .returned (.tuple #[.string S, .bool (dolB s.data.toList)]) ∧ S.data.toList = dolL s.data.toList) ∧ w = w' := by
  by_cases he : s.data.toList = []
  · have e1 : s.toList.isEmpty = true := by rw [bytes_empty, he]; rfl
    have e2 : dolB s.data.toList = false := by rw [he]; rfl
    have e3 := Lib.hid (show s.data.toList = dolL s.data.toList by unfold dolL; rw [e2]; rfl)
    rw [e2]
    clear he e2
    go_enter Tryd.func31, Tryd.ntmps31
    go_wp2
    go_ret2
    exact ⟨⟨s, rfl, e3.out⟩, rfl⟩
  · have e1 : s.toList.isEmpty = false := by rw [bytes_empty]; simpa using he
    have hz : 0 < s.size := by rw [bytes_size]; exact List.length_pos_iff.2 he
    have hz2 : (0 : Int) < (s.size : Int) := by omega
    have hz3 : (1 : Int) ≤ (s.size : Int) := by omega
    have bs := B_get (s := s) rfl hz
    have ed : dolB s.data.toList = decide (B s.data.toList 0 = 36) := by unfold dolB; rw [show s.data.toList.isEmpty = false by simpa using he]; rfl
    generalize hb : B s.data.toList 0 = z at *
    rw [ed]
    by_cases h36 : z = 36
    · have e3 := Lib.hid (show dolL s.data.toList = s.data.toList.drop 1 by unfold dolL; rw [ed, if_pos (by simp [h36])])
      rw [decide_eq_true h36]
      clear ed hb he
      go_enter Tryd.func31, Tryd.ntmps31
      go_wp2
      go_ret2
      exact ⟨⟨_, rfl, (extract_list s 1).trans e3.out.symm⟩, rfl⟩
    · have e3 := Lib.hid (show s.data.toList = dolL s.data.toList by unfold dolL; rw [ed, if_neg (by simp [h36])])
      rw [decide_eq_false h36]
      clear ed hb he
      go_enter Tryd.func31, Tryd.ntmps31
      go_wp2
      go_ret2
      exact ⟨⟨s, rfl, e3.out⟩, rfl⟩
def letCase (_z : Int) : Prop := True
theorem letter_any (z : Int) (w : World) (z0 : 0 ≤ z) (z1 : z < 256) :
    Calls Tryd.prog 32 #[.int .u8 z] w fun e w' => e = .returned (.int .i64 (lv z)) ∧ w = w' := by
  unfold lv
  by_cases h1 : 65 ≤ z
  · by_cases h2 : z ≤ 90
    · rw [if_pos ⟨h1, h2⟩]
      have w1 : IntKind.u8.wrap (z - 65) = z - 65 := by rw [IntKind.wrap_u8]; omega
      have w2 : IntKind.i64.wrap (z - 65) = z - 65 := by rw [IntKind.wrap_i64]; omega
      go_enter Tryd.func32, Tryd.ntmps32
      go_wp2
      go_ret
      exact ⟨rfl, rfl⟩
    · rw [if_neg (by omega)]
      by_cases h3 : 97 ≤ z
      · by_cases h4 : z ≤ 122
        · rw [if_pos ⟨h3, h4⟩]
          have w1 : IntKind.u8.wrap (z - 97) = z - 97 := by rw [IntKind.wrap_u8]; omega
          have w2 : IntKind.i64.wrap (z - 97) = z - 97 := by rw [IntKind.wrap_i64]; omega
          go_enter Tryd.func32, Tryd.ntmps32
          go_wp2
          go_ret
          exact ⟨rfl, rfl⟩
        · rw [if_neg (by omega)]
          go_enter Tryd.func32, Tryd.ntmps32
          go_wp2
          go_ret
          exact ⟨rfl, rfl⟩
      · rw [if_neg (by omega)]
        go_enter Tryd.func32, Tryd.ntmps32
        go_wp2
        go_ret
        exact ⟨rfl, rfl⟩
  · rw [if_neg (by omega), if_neg (by omega)]
    have h3 : ¬ 97 ≤ z := by omega
    go_enter Tryd.func32, Tryd.ntmps32
    go_wp2
    go_ret
    exact ⟨rfl, rfl⟩
theorem rletter_any (z : Int) (w : World) (z0 : 0 ≤ z) (z1 : z < 256) :
    Calls Tryd.prog 33 #[.int .u8 z] w fun e w' => e = .returned (.int .i64 (lv z + 1)) ∧ w = w' := by
  unfold lv
  by_cases h1 : 65 ≤ z
  · by_cases h2 : z ≤ 90
    · rw [if_pos ⟨h1, h2⟩]
      have w1 : IntKind.u8.wrap (z - 65) = z - 65 := by rw [IntKind.wrap_u8]; omega
      have w2 : IntKind.i64.wrap (z - 65) = z - 65 := by rw [IntKind.wrap_i64]; omega
      have w3 : IntKind.i64.wrap (z - 65 + 1) = z - 65 + 1 := by rw [IntKind.wrap_i64]; omega
      go_enter Tryd.func33, Tryd.ntmps33
      go_wp2
      go_ret
      exact ⟨rfl, rfl⟩
    · rw [if_neg (by omega)]
      by_cases h3 : 97 ≤ z
      · by_cases h4 : z ≤ 122
        · rw [if_pos ⟨h3, h4⟩]
          have w1 : IntKind.u8.wrap (z - 97) = z - 97 := by rw [IntKind.wrap_u8]; omega
          have w2 : IntKind.i64.wrap (z - 97) = z - 97 := by rw [IntKind.wrap_i64]; omega
          have w3 : IntKind.i64.wrap (z - 97 + 1) = z - 97 + 1 := by rw [IntKind.wrap_i64]; omega
          go_enter Tryd.func33, Tryd.ntmps33
          go_wp2
          go_ret
          exact ⟨rfl, rfl⟩
        · rw [if_neg (by omega)]
          go_enter Tryd.func33, Tryd.ntmps33
          go_wp2
          go_ret
          exact ⟨rfl, rfl⟩
      · rw [if_neg (by omega)]
        go_enter Tryd.func33, Tryd.ntmps33
        go_wp2
        go_ret
        exact ⟨rfl, rfl⟩
  · rw [if_neg (by omega), if_neg (by omega)]
    have h3 : ¬ 97 ≤ z := by omega
    go_enter Tryd.func33, Tryd.ntmps33
    go_wp2
    go_ret
    exact ⟨rfl, rfl⟩
end Go.Proofs.YtikcggbkkgipoaaDoor
