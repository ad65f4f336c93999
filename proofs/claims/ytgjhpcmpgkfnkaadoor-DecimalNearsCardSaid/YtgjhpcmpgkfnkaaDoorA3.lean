/-
  Package decimal and the document's decimals: allDigits, digit: walked.
-/
import Derived.Test.YtgjhpcmpgkfnkaaDoorA2
namespace Go.Proofs.YtgjhpcmpgkfnkaaDoor
open Go.RowKit Go.Shelf

theorem allDigits_any (s : ByteArray) (w : World) (hs : s.size ≤ 1000000) :
    Calls Tryd.prog 27 #[.string s] w fun e w' => e = .returned (.bool (s.data.toList.all dgB)) ∧ w = w' := by
  have DT := Lib.hid (@digs_t s.data.toList)
  have DF := Lib.hid (fun k h1 h2 => @digs_f s.data.toList k h1 h2)
  have BG := Lib.hid (fun k hk => B_get (s := s) (k := k) rfl hk)
  have BR := Lib.hid (fun k => B_range s.data.toList k)
  have SZ := Lib.hid (bytes_size s)
  obtain ⟨l, hl⟩ : ∃ l, s.data.toList = l := ⟨_, rfl⟩
  rw [hl] at DT DF BG BR SZ ⊢
  clear hl
  go_enter Tryd.func27, Tryd.ntmps27
  go_wp2
  go_loop [6] (fun v => ∃ k : Nat, v = .int .i64 (k : Int) ∧ k ≤ s.size ∧ Hid (∀ j : Nat, j < k → 48 ≤ B l j ∧ B l j ≤ 57)) (fun v => s.size - (intOf v).toNat)
  case atStart => exact ⟨0, rfl, by omega, fun j hj => absurd hj (Nat.not_lt_zero _)⟩
  case round =>
    obtain ⟨k, rfl, hk, hd⟩ := hrel
    by_cases hlt : k < s.size
    · have klt : (k : Int) < (s.size : Int) := by omega
      have k0 : (0 : Int) ≤ (k : Int) := by omega
      have bs := BG.out k hlt
      have br := BR.out k
      have w1 : IntKind.i64.wrap ((k : Int) + 1) = (k : Int) + 1 := by rw [IntKind.wrap_i64]; omega
      obtain ⟨z, hz⟩ : ∃ z, B l k = z := ⟨_, rfl⟩
      rw [hz] at bs br
      by_cases h1 : z < 48
      · have A := Lib.hid (DF.out k (by rw [← SZ.out]; exact hlt) (by rw [hz]; omega))
        clear hz
        go_wp2
        go_ret
        exact ⟨by rw [A.out]; rfl, rfl⟩
      · by_cases h2 : 57 < z
        · have A := Lib.hid (DF.out k (by rw [← SZ.out]; exact hlt) (by rw [hz]; omega))
          clear hz
          go_wp2
          go_ret
          exact ⟨by rw [A.out]; rfl, rfl⟩
        · have A : Hid (∀ j : Nat, j < k + 1 → 48 ≤ B l j ∧ B l j ≤ 57) := fun j hj => by
            by_cases e : j = k
            · subst e; rw [hz]; omega
            · exact hd.out j (by omega)
          clear hz
          go_wp2
          refine ⟨⟨k + 1, by simp, by omega, A⟩, ?_⟩
          simp [intOf]; omega
    · have klt : ¬ (k : Int) < (s.size : Int) := by omega
      have A := Lib.hid (DT.out (fun j hj => hd.out j (by have := SZ.out; omega)))
      go_wp2
      go_ret
      exact ⟨by rw [A.out]; rfl, rfl⟩
theorem rdigit_any (z : Int) (w : World) (z0 : 0 ≤ z) (z1 : z < 256) :
    Calls Tryd.prog 30 #[.int .u8 z] w fun e w' => e = .returned (.bool (decide (48 ≤ z ∧ z ≤ 57))) ∧ w = w' := by
  by_cases h1 : 48 ≤ z
  · by_cases h2 : z ≤ 57
    · rw [decide_eq_true ⟨h1, h2⟩]
      go_enter Tryd.func30, Tryd.ntmps30
      go_wp2
      go_ret
      exact ⟨rfl, rfl⟩
    · rw [decide_eq_false (by omega)]
      go_enter Tryd.func30, Tryd.ntmps30
      go_wp2
      go_ret
      exact ⟨rfl, rfl⟩
  · rw [decide_eq_false (by omega)]
    go_enter Tryd.func30, Tryd.ntmps30
    go_wp2
    go_ret
    exact ⟨rfl, rfl⟩
end Go.Proofs.YtgjhpcmpgkfnkaaDoor
