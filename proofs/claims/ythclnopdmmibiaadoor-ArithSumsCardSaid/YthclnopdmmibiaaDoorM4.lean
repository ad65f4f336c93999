/-
  Lists of words; layer 4's Sum and the document's Sum; the statement ArithSums, walked.
-/
import Derived.Test.YthclnopdmmibiaaDoorM2
import Derived.OpenShut
import Derived.Test.YthclnopdmmibiaaDoorC0
namespace Go.Proofs.YthclnopdmmibiaaDoor
open Go.RowKit Go.Shelf Go.ChangeShapes

/-- A []uint64 in memory: nil, empty, or of words in one row. -/
structure U64s (w : World) (A : Option Addr) (n c : Nat) (l : List Int) : Prop where
  len : l.length = n
  nc : n ≤ c
  c9 : (c : Int) ≤ 9223372036854775807
  wd : ∀ x ∈ l, Word x
  nil : A = none → c = 0
  mem : n = 0 ∨ ∃ b o, A = some ⟨b, o, none⟩ ∧ b < w.heap.size ∧ ∀ i : Nat, (h : i < l.length) → w.cell? ⟨b, o + i, none⟩ = some (.int .u64 l[i])
theorem U64s.on {w w2 : World} {A : Option Addr} {n c : Nat} {l : List Int} (h : U64s w A n c l) (hb : Below w.heap.size w w2) : U64s w2 A n c l := by
  refine ⟨h.len, h.nc, h.c9, h.wd, h.nil, ?_⟩
  rcases h.mem with e | ⟨b, o, rfl, hl, hc⟩
  · exact .inl e
  · refine .inr ⟨b, o, rfl, by have := hb.size; omega, fun i hi => ?_⟩
    rw [(bcell hb).1 _ _ hl]; exact hc i hi
theorem sumV_take_succ {l : List Int} {k : Nat} (h : k < l.length) : sumV (l.take (k + 1)) = addV (sumV (l.take k)) l[k] := by
  unfold sumV; rw [List.take_succ_eq_append_getElem h, List.foldl_append]; rfl
theorem sumV_word {l : List Int} (h : ∀ x ∈ l, Word x) : ∀ k, Word (sumV (l.take k)) := by
  intro k
  induction k with
  | zero => exact (show Word 0 from ⟨Int.le_refl _, by decide⟩)
  | succ k ih =>
    rcases Nat.lt_or_ge k l.length with c | c
    · rw [sumV_take_succ c]; exact addV_word ih (h _ (List.getElem_mem c))
    · rw [List.take_of_length_le (by omega)]; rw [List.take_of_length_le c] at ih; exact ih

theorem sum0_any (A : Option Addr) (c : Nat) (w : World) (hA : A = none → c = 0) (hc : (c : Int) ≤ 9223372036854775807) : Calls Tryd.prog 13 #[.slice A 0 c] w (WordPost 0 w) := by
  have c0 : (0 : Int) ≤ (c : Int) := by omega
  rcases A with _ | ad
  · obtain rfl := hA rfl
    exact sumnil_any w
  · clear hA
    go_enter Tryd.func13, Tryd.ntmps13
    go_wp2
    go_loopw [3, 8] (fun s i wr => i = .int .i64 0 ∧ s = .int .u64 0 ∧ Below w.heap.size w wr) (fun _ _ _ => 0)
    case atStart => exact ⟨rfl, rfl, Below.refl _ _⟩
    case round =>
      obtain ⟨rfl, rfl, hbl⟩ := hrel
      go_wp2
      go_ret
      exact ⟨rfl, hbl⟩
theorem asum_any {w : World} {A : Option Addr} {n c : Nat} {l : List Int} (h : U64s w A n c l) (hT : Tabs w) (hn : n ≤ 200) : Calls Tryd.prog 13 #[.slice A n c] w (WordPost (sumV l) w) := by
  rcases h.mem with rfl | ⟨b, o, rfl, hb, hcell⟩
  · obtain rfl : l = [] := List.eq_nil_of_length_eq_zero h.len
    exact sum0_any A c w h.nil h.c9
  · rw [← h.len]
    exact sumlist_any l b o c w hT h.wd (by rw [h.len]; omega) hb hcell

set_option maxRecDepth 100000 in
set_option maxHeartbeats 1000000 in
theorem rsum_any {w : World} {A : Option Addr} {n c : Nat} {l : List Int} (h : U64s w A n c l) (hn : n ≤ 200) : Calls Tryd.prog 14 #[.slice A n c] w (WordPost (sumV l) w) := by
  have H := Lib.hid h
  have hlen := h.len
  have hc9 := h.c9
  have hnc := h.nc
  have n0 : (0 : Int) ≤ (n : Int) := by omega
  clear h
  go_enter Tryd.func14, Tryd.ntmps14
  go_wp2
  go_loopw [3, 4] (fun s i wr => ∃ k : Nat, k ≤ n ∧ i = .int .i64 (k : Int) ∧ s = .int .u64 (sumV (l.take k)) ∧ Below w.heap.size w wr) (fun _ i _ => n - (intOf i).toNat)
  case atStart => exact ⟨0, by omega, rfl, rfl, Below.refl _ _⟩
  case round =>
    obtain ⟨k, hk, rfl, rfl, hbl⟩ := hrel
    by_cases hlt : k < n
    · obtain ⟨b, o, hA, hb, hcell⟩ := H.out.mem.resolve_left (by omega)
      subst hA
      have hkl : k < l.length := by omega
      have cell : wr.cell? ⟨b, o + k, none⟩ = some (.int .u64 l[k]) := by rw [(bcell hbl).1 _ _ hb]; exact hcell k hkl
      have hx := H.out.wd l[k] (List.getElem_mem hkl)
      have hs := sumV_take_succ hkl
      have AD := Lib.hid (fun w => radd_any (sumV (l.take k)) l[k] (sumV_word H.out.wd k) hx w)
      rw [← hs] at AD
      have klt : (k : Int) < (n : Int) := by omega
      have Hbl := Lib.hid hbl
      clear hs hx hcell hbl
      generalize hS1 : sumV (l.take (k + 1)) = S1 at *
      have HS1 := Lib.hid hS1
      generalize sumV (l.take k) = S0 at *
      generalize l[k] = x at *
      clear hS1
      go_wp2_with (go_at_call 8; refine (AD.out _).mono ?_; rintro en w1 ⟨rfl, hb1⟩)
      go_roundw
      case rel => exact ⟨k + 1, by omega, by go_num, by rw [HS1.out], Hbl.out.trans (hb1.mono Hbl.out.size)⟩
      case measure => simp [intOf]; omega
    · have hkl : k = n := by omega
      subst hkl
      have el : l.take k = l := by rw [← hlen]; exact List.take_length
      rw [el]
      generalize sumV l = S0 at *
      have Hbl := Lib.hid hbl
      clear hbl hlt
      go_wp2
      go_ret
      exact ⟨rfl, Hbl.out⟩

set_option maxRecDepth 100000 in
set_option maxHeartbeats 2000000 in
theorem sumsl_any {w : World} {A : Option Addr} {n c : Nat} {l : List Int} (h : U64s w A n c l) (hT : Tabs w) : Calls Tryd.prog 5 #[.slice A n c] w (TruePost w) := by
  have H := Lib.hid h
  have HT := Lib.hid hT
  have hlen := h.len
  have hc9 := h.c9
  have hnc := h.nc
  have n0 : (0 : Int) ≤ (n : Int) := by omega
  clear h hT
  by_cases big : 200 < n
  · have b1 : (200 : Int) < (n : Int) := by omega
    go_enter Tryd.func5, Tryd.ntmps5
    go_wp2_with fail
    refine (shown4_any _ HT.out).mono ?_
    rintro e w1 ⟨rfl, hb1⟩
    go_wp2
    go_ret
    exact ⟨rfl, hb1⟩
  have b1 : (n : Int) ≤ 200 := by omega
  go_enter Tryd.func5, Tryd.ntmps5
  go_wp2_with fail
  refine (shown4_any _ HT.out).mono ?_
  rintro e w1 ⟨rfl, hb1⟩
  go_wp2
  go_loopw [4, 5] (fun s i wr => ∃ k : Nat, k ≤ n ∧ i = .int .i64 (k : Int) ∧ s = .int .u64 (sumV (l.take k)) ∧ Below w.heap.size w wr) (fun _ i _ => n - (intOf i).toNat)
  case atStart => exact ⟨0, by omega, rfl, rfl, hb1⟩
  case round =>
    obtain ⟨k, hk, rfl, rfl, hbl⟩ := hrel
    by_cases hlt : k < n
    · obtain ⟨b, o, hA, hb, hcell⟩ := H.out.mem.resolve_left (by omega)
      subst hA
      have hkl : k < l.length := by omega
      have cell : wr.cell? ⟨b, o + k, none⟩ = some (.int .u64 l[k]) := by rw [(bcell hbl).1 _ _ hb]; exact hcell k hkl
      have hx := H.out.wd l[k] (List.getElem_mem hkl)
      have hs := sumV_take_succ hkl
      have AD := Lib.hid (fun w => plus_any (sumV (l.take k)) l[k] (sumV_word H.out.wd k) hx w)
      rw [← hs] at AD
      have klt : (k : Int) < (n : Int) := by omega
      have hT2 := Lib.hid (HT.out.below hbl)
      have Hbl := Lib.hid hbl
      clear hs hx hcell hbl hb1
      generalize hS1 : sumV (l.take (k + 1)) = S1 at *
      have HS1 := Lib.hid hS1
      generalize sumV (l.take k) = S0 at *
      generalize l[k] = x at *
      clear hS1
      go_wp2_with (go_at_call 7; refine (AD.out _ hT2.out).mono ?_; rintro en w1 ⟨rfl, hb1⟩)
      go_roundw
      case rel => exact ⟨k + 1, by omega, by go_num, by rw [HS1.out], Hbl.out.trans (hb1.mono Hbl.out.size)⟩
      case measure => simp [intOf]; omega
    · have hkl : k = n := by omega
      subst hkl
      have el : l.take k = l := by rw [← hlen]; exact List.take_length
      rw [el]
      have CA := Lib.hid (fun W (hW : Below w.heap.size w W) => asum_any (H.out.on hW) (HT.out.below hW) (by omega))
      have CR := Lib.hid (fun W (hW : Below w.heap.size w W) => rsum_any (H.out.on hW) (by omega))
      generalize sumV l = S0 at *
      have Hbl := Lib.hid hbl
      clear hbl hlt hb1
      go_wp2_with fail
      refine (CA.out _ Hbl.out).mono ?_
      rintro e w2 ⟨rfl, hb2⟩
      have hB2 := Hbl.out.trans (hb2.mono Hbl.out.size)
      go_wp2_with fail
      refine (CR.out _ hB2).mono ?_
      rintro e w3 ⟨rfl, hb3⟩
      have hB3 := hB2.trans (hb3.mono hB2.size)
      go_wp2_with fail
      refine (CA.out _ hB3).mono ?_
      rintro e w4 ⟨rfl, hb4⟩
      have hB4 := hB3.trans (hb4.mono hB3.size)
      go_wp2
      go_ret
      exact ⟨by simp, hB4⟩

theorem Tryd.cells22 : Tryd.prog.cellsOf 22 = 1 := by kernel_rfl
/-- An argument of words is such a slice. -/
theorem u64s_of_trod {H : Type} {enc : TypeId × Value → H} {W : World} {A : Option Addr} {n c : Nat} {d : DataW H} {p : List MemPlace} (h : DataW.Trod enc Tryd.prog W 0 (fun _ => true) true 26 (.slice A n c) d p) : ∃ l, U64s W A n c l := by
  obtain ⟨fuel, hf⟩ := h
  rcases open_ints Tryd.underlying26 Tryd.underlying22 Tryd.cells22 hf with ⟨hcs, hx⟩ | ⟨a, len', cap', zs, hcs, _, hl, hm, hz, hx, hcell, hwz⟩
  · simp [Value.cells] at hcs
    obtain ⟨rfl, rfl, rfl⟩ := hcs
    exact ⟨[], rfl, Nat.le_refl _, by decide, (fun x hx => by cases hx), (fun _ => rfl), .inl rfl⟩
  · simp [Value.cells] at hcs
    obtain ⟨rfl, rfl, rfl⟩ := hcs
    simp only [if_true] at hz
    refine ⟨zs.take n, by rw [List.length_take]; omega, hl, (by have := hm; unfold maxLen at this; omega), fun x hx => ?_, (fun e => by cases e), ?_⟩
    · have := hwz x (List.mem_of_mem_take hx)
      simp [Lit.wf, IntKind.min, IntKind.max, IntKind.signed, IntKind.bits] at this
      exact ⟨by omega, by omega⟩
    · by_cases c0 : n = 0
      · exact .inl c0
      · have h0 := hcell 0 (by omega)
        rw [show a.add 0 = a from rfl] at h0
        have hs := World.cell?_spot h0
        have hb := World.block_lt_of_cell? _ _ h0
        obtain ⟨b, o, sp⟩ := a
        simp at hs
        subst hs
        refine .inr ⟨b, o, rfl, hb, fun i hi => ?_⟩
        rw [List.length_take] at hi
        have := hcell i (by omega)
        rw [Addr.add_lit] at this
        rw [this]
        simp [List.getD, show i < zs.length by omega]
end Go.Proofs.YthclnopdmmibiaaDoor
