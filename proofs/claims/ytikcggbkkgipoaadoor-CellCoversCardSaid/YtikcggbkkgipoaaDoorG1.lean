/-
  tabardlaw15.same: walked.
-/
import Derived.Test.YtikcggbkkgipoaaDoorB5
import Derived.BigRegion
import Derived.Deep.RegionHeld3
namespace Go.Proofs.YtikcggbkkgipoaaDoor
open Go.RowKit Go.Shelf

theorem rowOf_get (l : List (Int × Int)) (i : Nat) (q : Int × Int) (h : l[i]? = some q) (j : Nat) (hj : j < 4) : (rowOf l)[i * 4 + j]? = (cell4 q)[j]? := by
  induction l generalizing i with
  | nil => simp at h
  | cons a l ih =>
    have e : rowOf (a :: l) = cell4 a ++ rowOf l := by simp [rowOf]
    rw [e]
    cases i with
    | zero =>
      simp at h; subst h
      rw [Nat.zero_mul, Nat.zero_add, List.getElem?_append_left (by simp [cell4]; omega)]
    | succ i =>
      rw [List.getElem?_append_right (by simp [cell4]; omega), show (i + 1) * 4 + j - (cell4 a).length = i * 4 + j by simp [cell4]; omega]
      exact ih i (by simpa using h)
set_option maxHeartbeats 2000000 in
theorem same_any (l : List (Int × Int)) (v1 v2 : Value) (w : World) (b1 b2 : Nat) (h1 : w.ownsRow b1 23 4 v1 l.length (rowOf l)) (h2 : w.ownsRow b2 23 4 v2 l.length (rowOf l)) (hl : l.length ≤ 64000) :
    Calls Tryd.prog 24 #[v1, v2] w fun e w' => e = .returned (.bool true) ∧ Below w.heap.size w w' := by
  by_cases h0 : l.length = 0
  · have e1 : v1 = .slice none 0 0 ∨ ∃ g cap, v1 = .slice (some ⟨g, 0, none⟩) 0 cap := by
      rcases h1.2 with ⟨h, _⟩ | ⟨g, cap, _, h, _⟩
      · exact .inl h
      · rw [h0] at h; exact .inr ⟨g, cap, h⟩
    have e2 : v2 = .slice none 0 0 ∨ ∃ g cap, v2 = .slice (some ⟨g, 0, none⟩) 0 cap := by
      rcases h2.2 with ⟨h, _⟩ | ⟨g, cap, _, h, _⟩
      · exact .inl h
      · rw [h0] at h; exact .inr ⟨g, cap, h⟩
    clear h1 h2 hl h0
    rcases e1 with rfl | ⟨g1, cap1, rfl⟩ <;> rcases e2 with rfl | ⟨g2, cap2, rfl⟩
    all_goals
      go_enter Tryd.func24, Tryd.ntmps24
      go_wp2
      refine wp_loop_rounds 1 ?_
      rw [rounds_succ]
      go_wp2
      go_ret
      exact ⟨rfl, Below.refl _ _⟩
  · rcases h1.2 with ⟨_, hz⟩ | ⟨g1, cap1, cur1, rfl, _, _⟩
    · exact absurd hz h0
    rcases h2.2 with ⟨_, hz⟩ | ⟨g2, cap2, cur2, rfl, _, _⟩
    · exact absurd hz h0
    have C1 := Lib.hid (h1.cells (g := g1) rfl)
    have C2 := Lib.hid (h2.cells (g := g2) rfl)
    obtain ⟨n, hn⟩ : ∃ n, l.length = n := ⟨_, rfl⟩
    rw [hn] at hl h0 ⊢
    clear h1 h2
    go_enter Tryd.func24, Tryd.ntmps24
    go_wp2
    go_loopw [5] (fun iv wx => ∃ k : Nat, iv = .int .i64 (k : Int) ∧ k ≤ n ∧ Below w.heap.size w wx) (fun iv _ => n - (intOf iv).toNat)
    case atStart => exact ⟨0, rfl, by omega, Below.refl _ _⟩
    case round =>
      obtain ⟨k, rfl, hk, hb⟩ := hrel
      by_cases hlt : k < n
      · have klt : (k : Int) < (n : Int) := by omega
        have k0 : (0 : Int) ≤ (k : Int) := by omega
        obtain ⟨q, hq⟩ : ∃ q, l[k]? = some q := ⟨_, List.getElem?_eq_getElem (by omega)⟩
        have G : ∀ g, Hid (∀ (j : Nat) (u : Value), (rowOf l)[j]? = some u → w.cell? ((⟨g, 0, none⟩ : Addr).add j) = some u) → ∀ j u, j < 4 → (cell4 q)[j]? = some u → wr.cell? ⟨g, k * 4 + j, none⟩ = some u := by
          intro g C j u hj hu
          have hc := C.out (k * 4 + j) u (by rw [rowOf_get l k q hq j hj]; exact hu)
          have e : (⟨g, 0, none⟩ : Addr).add (k * 4 + j) = ⟨g, k * 4 + j, none⟩ := by unfold Addr.add; split <;> simp_all
          rw [e] at hc
          exact (hb.cell (p := ⟨g, k * 4 + j, none⟩) (World.block_lt_of_cell? w ⟨g, k * 4 + j, none⟩ hc)).trans hc
        have a0 := G g1 C1 0 _ (by omega) rfl
        have a1 := G g1 C1 1 _ (by omega) rfl
        have a2 := G g1 C1 2 _ (by omega) rfl
        have a3 := G g1 C1 3 _ (by omega) rfl
        have d0 := G g2 C2 0 _ (by omega) rfl
        have d1 := G g2 C2 1 _ (by omega) rfl
        have d2 := G g2 C2 2 _ (by omega) rfl
        have d3 := G g2 C2 3 _ (by omega) rfl
        clear G
        rw [Nat.add_zero] at a0 d0
        have HB := Lib.hid hb
        clear hb
        go_wp2
        go_region_held3 (fun w' => w'.cell? ⟨g1, k * 4, none⟩ = some (.int .i64 q.1) ∧ w'.cell? ⟨g1, k * 4 + 1, none⟩ = some (.int .i64 q.2) ∧ w'.cell? ⟨g1, k * 4 + 2, none⟩ = some (.bool false) ∧ w'.cell? ⟨g1, k * 4 + 3, none⟩ = some (.bool false) ∧ w'.cell? ⟨g2, k * 4, none⟩ = some (.int .i64 q.1) ∧ w'.cell? ⟨g2, k * 4 + 1, none⟩ = some (.int .i64 q.2) ∧ w'.cell? ⟨g2, k * 4 + 2, none⟩ = some (.bool false) ∧ w'.cell? ⟨g2, k * 4 + 3, none⟩ = some (.bool false)) (simp [*, go_sem]) (first | fail)
        have w1 : IntKind.i64.wrap ((k : Int) + 1) = (k : Int) + 1 := by rw [IntKind.wrap_i64]; omega
        go_wp2
        go_roundw
        case rel => exact ⟨k + 1, by go_num, by omega, HB.out.drew⟩
        case measure => simp [intOf]; omega
      · have klt : ¬ (k : Int) < (n : Int) := by omega
        go_wp2
        go_ret
        exact ⟨rfl, hb⟩
end Go.Proofs.YtikcggbkkgipoaaDoor
