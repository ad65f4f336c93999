/-
  The head of chapter 3's statements: the chapter's examples come out as it tells them.
-/
import Derived.Test.YtgaaaokhggeglaaDoorF4
namespace Go.Proofs.YtgaaaokhggeglaaDoor
open Go.RowKit Go.Shelf

theorem len_unique {v : Int} {n m : Nat} (h1 : v < (2 ^ n : Nat)) (h2 : ((2 ^ n : Nat) : Int) ≤ 2 * v) (h3 : v < (2 ^ m : Nat)) (h4 : ((2 ^ m : Nat) : Int) ≤ 2 * v) : n = m := by
  rcases Nat.lt_trichotomy n m with h | h | h
  · have := Nat.pow_le_pow_right (show 0 < 2 by decide) (show n + 1 ≤ m by omega)
    rw [Nat.pow_succ] at this; omega
  · exact h
  · have := Nat.pow_le_pow_right (show 0 < 2 by decide) (show m + 1 ≤ n by omega)
    rw [Nat.pow_succ] at this; omega
/-- Join at a number of n bits. -/
def joinAt (neg : Bool) (v e : Int) (more : Bool) (n : Nat) : Int :=
  nearI neg (v / pw (max ((n : Int) - 64) 0)) (max ((n : Int) - 64) 0) e (Lib.bitLen (v / pw (max ((n : Int) - 64) 0)).toNat : Int) (more || (v % pw (max ((n : Int) - 64) 0) != 0))
theorem JoinPost.at {neg more : Bool} {v e : Int} (n : Nat) (h1 : v < (2 ^ n : Nat)) (h2 : ((2 ^ n : Nat) : Int) ≤ 2 * v) {r : Int} (hr : joinAt neg v e more n = r) :
    ∀ (w : World) (en : Ending) (w' : World), JoinPost neg v e more w en w' → en = .returned (.int .u64 r) ∧ Below w.heap.size w w' := by
  rintro w en w' ⟨m, over, top, size, lost, hm, h3, h4, rfl, rfl, hl, rfl, rfl, hb⟩
  have hv : v ≠ 0 := by have := Nat.two_pow_pos n; omega
  obtain rfl := len_unique h1 h2 h3 (h4 hv)
  refine ⟨?_, hb⟩
  rw [← hr]
  unfold joinAt
  congr 4
  cases lost
  · have := hl.1 rfl; simp [this]
  · have : ¬ v % pw (max ((n : Int) - 64) 0) = 0 := fun e => by have := hl.2 e; cases this
    simp [this]

end Go.Proofs.YtgaaaokhggeglaaDoor
