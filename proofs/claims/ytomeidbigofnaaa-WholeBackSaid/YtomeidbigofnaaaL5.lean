/-
  The document's naturals: Times.
-/
import Derived.Test.YtomeidbigofnaaaL4
namespace Go.Proofs.Ytomeidbigofnaaa
open Go.RowKit Go.Shelf

/-- 'make' of n limbs. -/
theorem wpList_mk {w : World} {ops : Array Oper} {rest : List Oper} {o : Oper} {a : Act} {Q : Exit → Act → World → Prop} (hgd : o.guard = none) (s x : Operand) (ho : o.op = Op.makeSlice 45 s x)
    (base : Nat) (L C : Int) (n : Nat) (hs : a.eval s = .int .i64 L) (hx : a.eval x = .int .i64 C) (hL : L = (n : Int)) (hC : C = (n : Int)) (hn : n ≤ 2000000000) (hbase : base ≤ w.heap.size)
    (h : ∀ w', w'.ownsRow base 62 1 (.slice (some ⟨w.heap.size, 0, none⟩) n n) n ((List.replicate n (0 : Int)).map (Value.int .u32)) → Below base w w' → w.heap.size < w'.heap.size → wpList Try.prog ops Q rest (a.put o.dst (.slice (some ⟨w.heap.size, 0, none⟩) n n)) w') :
    wpList Try.prog ops Q (o :: rest) a w := by
  obtain ⟨i0, hi, hz0, hz1, hz2⟩ := info_parts Try.info71
  refine wpList_make_full w hgd s x 45 ho base 62 i0 (.int .u32 0) 1 Try.underlying45 hi hz0 hz1 .i64 .i64 L C n hs hx hL hC (by rw [hz2]; omega) (by unfold maxLen; omega) hbase fun w' h1 h2 => ?_
  refine h w' ?_ ((Below.refl _ _).grown h2 hbase (fun k hk => by cases hk)) (h1.lt _ rfl).2
  have e : (madeCells (Value.int .u32 0).cells (n * 1)).toList = (List.replicate n (0 : Int)).map (Value.int .u32) := by
    rw [show (Value.int .u32 0).cells = #[Value.int .u32 0] from rfl, toList_madeCells_one, List.map_replicate, Nat.mul_one]
  rw [← e]; exact h1

/-- i rows of a product. -/
structure TimesAt (a b : List Int) (N i : Nat) (o : List Int) : Prop where
  len : o.length = N
  lim : ∀ x ∈ o, Limb x
  v : natV o = natV (a.take i) * natV b
  z : ∀ t : Nat, i + b.length ≤ t → digV o t = 0
/-- .. and k limbs of the next row. -/
structure TimesIn (a b : List Int) (N i k : Nat) (o : List Int) (cy : Int) : Prop where
  len : o.length = N
  lim : ∀ x ∈ o, Limb x
  v : natV o + cy * pw (32 * ((i + k : Nat) : Int)) = natV (a.take i) * natV b + digV a i * (pw (32 * (i : Int)) * natV (b.take k))
  z : ∀ t : Nat, i + b.length ≤ t → digV o t = 0
theorem digV_set_ne {o : List Int} {i t : Nat} {x : Int} (h : i ≠ t) : digV (o.set i x) t = digV o t := by
  unfold digV; rw [List.getElem?_set_ne h]
theorem times_in {a b o : List Int} {N i : Nat} (h : TimesAt a b N i o) : TimesIn a b N i 0 o 0 :=
  ⟨h.len, h.lim, by rw [h.v, List.take_zero, show natV [] = 0 from rfl]; simp, h.z⟩
theorem times_step {a b o : List Int} {N i k : Nat} {cy s : Int} (h : TimesIn a b N i k o cy) (hk : k < b.length) (hN : i + k < N) (hs : s = digV a i * digV b k + digV o (i + k) + cy) :
    TimesIn a b N i (k + 1) (o.set (i + k) (s % 4294967296)) (s / 4294967296) := by
  obtain ⟨h1, h2, h3, h4⟩ := h
  refine ⟨by rw [List.length_set, h1], limbs_set h2 _ (limb_mod s), ?_, fun t ht => by rw [digV_set_ne (by omega)]; exact h4 t ht⟩
  rw [natV_set _ (by omega), ← digV_lt (by omega), natV_take_dig, show i + (k + 1) = i + k + 1 from rfl, pw32]
  have ep : pw (32 * ((i + k : Nat) : Int)) = pw (32 * (i : Int)) * pw (32 * (k : Int)) := by rw [← pw_add _ _ (by omega) (by omega)]; congr 1; omega
  have e : s = 4294967296 * (s / 4294967296) + s % 4294967296 := by omega
  generalize s / 4294967296 = q at *
  generalize s % 4294967296 = r at *
  generalize digV o (i + k) = D at *
  generalize hp : pw (32 * ((i + k : Nat) : Int)) = p at *
  have f : p * (digV a i * digV b k + D + cy) = p * (4294967296 * q + r) := by rw [← hs, ← e]
  have g : digV a i * (pw (32 * (i : Int)) * (natV (b.take k) + pw (32 * (k : Int)) * digV b k)) = digV a i * (pw (32 * (i : Int)) * natV (b.take k)) + p * (digV a i * digV b k) := by
    rw [Int.mul_add, Int.mul_add, ← Int.mul_assoc (pw (32 * (i : Int))) (pw (32 * (k : Int))), ← ep, Int.mul_left_comm (digV a i) p]
  rw [g]
  rw [Int.mul_add, Int.mul_add, Int.mul_add, Int.mul_left_comm p 4294967296] at f
  rw [Int.mul_comm cy p] at h3
  rw [Int.mul_sub, Int.mul_comm q, Int.mul_assoc 4294967296 p q]
  omega
theorem times_out {a b o : List Int} {N i : Nat} {cy : Int} (h : TimesIn a b N i b.length o cy) (hc : Limb cy) (hN : i + b.length < N) : TimesAt a b N (i + 1) (o.set (i + b.length) cy) := by
  obtain ⟨h1, h2, h3, h4⟩ := h
  refine ⟨by rw [List.length_set, h1], limbs_set h2 _ hc, ?_, fun t ht => by rw [digV_set_ne (by omega)]; exact h4 t (by omega)⟩
  rw [natV_set _ (by omega), ← digV_lt (by omega), h4 _ (Nat.le_refl _), natV_take_dig, Int.add_mul]
  rw [natV_take_all (Nat.le_refl _)] at h3
  rw [Int.mul_comm cy] at h3
  rw [Int.mul_sub, Int.mul_zero, Int.sub_zero, h3, Int.mul_left_comm, Int.mul_assoc]
theorem mul_limb {x y : Int} (hx : Limb x) (hy : Limb y) : 0 ≤ x * y ∧ x * y ≤ 18446744065119617025 := by
  unfold Limb at *
  exact ⟨Int.mul_nonneg hx.1 hy.1, Int.le_trans (Int.mul_le_mul (show x ≤ 4294967295 by omega) (show y ≤ 4294967295 by omega) hy.1 (by omega)) (by decide)⟩
theorem row_cell {w : World} {base g N : Nat} {o : List Int} (h : w.ownsRow base 62 1 (.slice (some ⟨g, 0, none⟩) N N) N (o.map (Value.int .u32))) (j : Nat) (hj : j < N) : w.cell? ⟨g, j, none⟩ = some (.int .u32 (digV o j)) := by
  have hl : o.length = N := by have := h.1; simpa using this
  rw [h.cellAt j (by omega), digV_lt (by omega)]
  simp [show j < o.length by omega]
theorem row_set {w : World} {base g N : Nat} {o : List Int} (h : w.ownsRow base 62 1 (.slice (some ⟨g, 0, none⟩) N N) N (o.map (Value.int .u32))) (j : Nat) (x : Int) :
    (w.setCell ⟨g, j, none⟩ (.int .u32 x)).ownsRow base 62 1 (.slice (some ⟨g, 0, none⟩) N N) N ((o.set j x).map (Value.int .u32)) := by
  have := (h.stored j (.int .u32 x)).1
  rw [List.map_set]; exact this
theorem row_drewN {w : World} {base n : Nat} {v : Value} {xs : List Value} (h : w.ownsRow base 62 1 v n xs) (k : Nat) : (w.drewN k).ownsRow base 62 1 v n xs := h

end Go.Proofs.Ytomeidbigofnaaa
