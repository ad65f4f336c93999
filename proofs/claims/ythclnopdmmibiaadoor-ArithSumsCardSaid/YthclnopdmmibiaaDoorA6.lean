/-
  Sum, and the head of chapter 4's statements.
-/
import Derived.Test.YthclnopdmmibiaaDoorA5
namespace Go.Proofs.YthclnopdmmibiaaDoor
open Go.RowKit Go.Shelf

def sumV (l : List Int) : Int := l.foldl addV 0
theorem R_word (s : Int) : Word (R s) := by
  unfold R
  split
  · decide
  · have h0 : 0 ≤ (if s < 0 then -s else s) := by split <;> omega
    have := rnd_bd (-1074) h0
    rw [rnd_neg]
    unfold signI Word
    split <;> omega
theorem addV_word {a b : Int} (h1 : Word a) (h2 : Word b) : Word (addV a b) := by
  unfold addV addK
  split
  · decide
  split
  · split
    · split
      · exact h1
      · decide
    · exact h1
  split
  · exact h2
  split
  · split
    · obtain ⟨n, rfl⟩ := Int.eq_ofNat_of_zero_le h1.1
      obtain ⟨m, rfl⟩ := Int.eq_ofNat_of_zero_le h2.1
      have hn : n < 18446744073709551616 := by have := h1.2; omega
      rw [u64_and_nat n m hn (by have := h2.2; omega)]
      have := Nat.and_le_left (n := n) (m := m)
      exact ⟨by omega, by omega⟩
    · exact h2
  split
  · exact h1
  · exact R_word _

set_option maxRecDepth 100000 in
set_option maxHeartbeats 1000000 in
theorem sumlist_any (l : List Int) (b o : Nat) (cap : Nat) (w : World) (hT : Tabs w) (hl : ∀ x ∈ l, Word x) (hn : (l.length : Int) < 9223372036854775807) (hb : b < w.heap.size)
    (hc : ∀ i : Nat, (h : i < l.length) → w.cell? ⟨b, o + i, none⟩ = some (.int .u64 l[i])) :
    Calls Tryd.prog 13 #[.slice (some ⟨b, o, none⟩) l.length cap] w (WordPost (sumV l) w) := by
  have HT := Lib.hid hT; have HL := Lib.hid hl; have HC := Lib.hid hc
  clear hT hl hc
  go_enter Tryd.func13, Tryd.ntmps13
  go_wp2
  go_loopw [3, 8] (fun s i wr => ∃ k : Nat, k ≤ l.length ∧ i = .int .i64 (k : Int) ∧ s = .int .u64 (sumV (l.take k)) ∧ Word (sumV (l.take k)) ∧ Below w.heap.size w wr) (fun _ i _ => l.length - (intOf i).toNat)
  case atStart => exact ⟨0, by omega, rfl, rfl, (show Word 0 from ⟨Int.le_refl _, by decide⟩), Below.refl _ _⟩
  case round =>
    obtain ⟨k, hk, rfl, rfl, hw, hbl⟩ := hrel
    by_cases hlt : k < l.length
    · have cell : wr.cell? ⟨b, o + k, none⟩ = some (.int .u64 l[k]) := by rw [(bcell hbl).1 _ _ hb]; exact HC.out k hlt
      have hx := HL.out l[k] (List.getElem_mem hlt)
      have hs : sumV (l.take (k + 1)) = addV (sumV (l.take k)) l[k] := by
        unfold sumV; rw [List.take_succ_eq_append_getElem hlt, List.foldl_append]; rfl
      have AD := Lib.hid (fun w => plus_any (sumV (l.take k)) l[k] hw hx w)
      have hT2 := Lib.hid (HT.out.below hbl)
      have hw2 := addV_word hw hx
      rw [← hs] at AD hw2
      have klt : (k : Int) < (l.length : Int) := by omega
      have HW2 := Lib.hid hw2
      have Hbl := Lib.hid hbl
      clear hs hw2 hw hx HC HL hbl
      generalize hS1 : sumV (l.take (k + 1)) = S1 at *
      have HS1 := Lib.hid hS1
      generalize sumV (l.take k) = S0 at *
      generalize l[k] = x at *
      clear hS1
      go_wp2_with (go_at_call 7; refine (AD.out _ hT2.out).mono ?_; rintro en w1 ⟨rfl, hb1⟩)
      go_roundw
      case rel => exact ⟨k + 1, by omega, by go_num, by rw [HS1.out], by rw [HS1.out]; exact HW2.out, Hbl.out.trans (hb1.mono Hbl.out.size)⟩
      case measure => simp [intOf]; omega
    · have hkl : k = l.length := by omega
      subst hkl
      rw [List.take_length] at *
      generalize sumV l = S0 at *
      have Hbl := Lib.hid hbl
      clear hw HC HL hbl hlt
      go_wp2
      go_ret
      exact ⟨rfl, Hbl.out⟩
theorem sumnil_any (w : World) : Calls Tryd.prog 13 #[.slice none 0 0] w (WordPost 0 w) := by
  go_enter Tryd.func13, Tryd.ntmps13
  go_wp2
  go_loopw [3, 8] (fun s i wr => i = .int .i64 0 ∧ s = .int .u64 0 ∧ Below w.heap.size w wr) (fun _ _ _ => 0)
  case atStart => exact ⟨rfl, rfl, Below.refl _ _⟩
  case round =>
    obtain ⟨rfl, rfl, hbl⟩ := hrel
    go_wp2
    go_ret
    exact ⟨rfl, hbl⟩
end Go.Proofs.YthclnopdmmibiaaDoor
