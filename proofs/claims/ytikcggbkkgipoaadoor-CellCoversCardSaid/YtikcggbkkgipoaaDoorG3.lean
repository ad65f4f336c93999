/-
  tabardlaw15.capital and ref: walked.
-/
import Derived.Test.YtikcggbkkgipoaaDoorB5
import Derived.Test.YtikcggbkkgipoaaDoorD1
import Derived.Laws.IdiomStrings
namespace Go.Proofs.YtikcggbkkgipoaaDoor
open Go.RowKit Go.Shelf
attribute [local go_sem] Oper.semAt_some

theorem froz_newC (w : World) (cs : Array Value) (t : TypeId) (j : Nat) : (w.alloc (.cells cs t)).frozen? ⟨w.heap.size, j, none⟩ = false := by
  unfold World.frozen?
  rw [show (w.alloc (Obj.cells cs t)).heap[w.heap.size]? = some (Obj.cells cs t) from World.alloc_heap_new w _]
  simp
def capZ (z : Int) : Int := if 97 ≤ z ∧ z ≤ 122 then z - 32 else z
def capB (b : UInt8) : UInt8 := UInt8.ofNat (capZ (b.toNat : Int)).toNat
theorem capB_int (b : UInt8) : ((capB b).toNat : Int) = capZ (b.toNat : Int) := by
  have h := b.toNat_lt
  have h2 : 0 ≤ capZ (b.toNat : Int) ∧ capZ (b.toNat : Int) < 256 := by unfold capZ; split <;> omega
  unfold capB
  rw [UInt8.toNat_ofNat', Nat.mod_eq_of_lt (by omega)]; omega
theorem infoB8 : (Tryd.prog.info? 5).map (fun i => (i.zero, i.size, i.bytes)) = some (some (.int .u8 0), 1, 1) := by kernel_rfl
theorem undB : Tryd.prog.underlying 58 = some (.slice 5) := by kernel_rfl
theorem undU8 : Tryd.prog.underlying 5 = some (.int .u8) := by kernel_rfl
theorem undS9 : Tryd.prog.underlying 9 = some .string := by kernel_rfl
theorem one_cell_u8 (w : World) (z : Int) (t : TypeId) : ∀ j u, [Value.int .u8 z][j]? = some u → (w.alloc (.cells #[.int .u8 z] t)).cell? ((⟨w.heap.size, 0, none⟩ : Addr).add j) = some u := cell_one_new w _ t
def capL (l : List UInt8) (k : Nat) : List Value := (l.take k).map (fun b => Value.int .u8 (capZ (b.toNat : Int)))
theorem capL_succ (l : List UInt8) (k : Nat) (h : k < l.length) : capL l (k + 1) = capL l k ++ [Value.int .u8 (capZ (B l k))] := by
  unfold capL
  rw [List.take_succ_eq_append_getElem h, List.map_append]
  unfold B
  rw [List.getD_eq_getElem?_getD, List.getElem?_eq_getElem h]; rfl
set_option maxRecDepth 100000 in
set_option maxHeartbeats 4000000 in
theorem capital_any (s : ByteArray) (w : World) (hs : s.size ≤ 1000) :
    Calls Tryd.prog 30 #[.string s] w fun e w' => (∃ S : ByteArray, e = .returned (.string S) ∧ S.data.toList = s.data.toList.map capB) ∧ Below w.heap.size w w' := by
  refine (callsIn_wide (n := 3)).1 ?_
  obtain ⟨i0, hi, hz0, hz1, hz2⟩ := info_parts infoB8
  have sl := Lib.hid (bytes_size s)
  have BG := Lib.hid (fun k hk => B_get (k := k) (s := s) rfl hk)
  obtain ⟨l, hl⟩ : ∃ l, s.data.toList = l := ⟨_, rfl⟩
  rw [hl] at BG sl ⊢
  have sle : (s.size : Int) ≤ 1000 := by omega
  clear hl
  refine callsIn_of_wp Tryd.func30 rfl trivial ?_ rfl
  simp only [Tryd.ntmps30, List.size_toArray, List.length_cons, List.length_nil, Nat.reduceAdd, Nat.reduceSub, Array.replicate_succ, Array.replicate_zero, List.push_toArray, List.append_toArray, List.nil_append, List.cons_append]
  gi_wp2
  gi_loopw [3, 4] (fun bv iv wx => ∃ k : Nat, iv = .int .i64 (k : Int) ∧ k ≤ s.size ∧ Hid (wx.ownsRow w.heap.size 5 1 bv k (capL l k) ∧ Below w.heap.size w wx)) (fun _ iv _ => s.size - (intOf iv).toNat)
  case atStart => exact ⟨0, rfl, Nat.zero_le _, World.ownsRow_nil _ _ _ _, Below.refl _ _⟩
  case round =>
    obtain ⟨k, rfl, hk, HI⟩ := hrel
    have k0 : (0 : Int) ≤ (k : Int) := by omega
    by_cases hlt : k < s.size
    · have klt : (k : Int) < (s.size : Int) := by omega
      have bs := BG.out k hlt
      obtain ⟨z, hz⟩ : ∃ z, B l k = z := ⟨_, rfl⟩
      obtain ⟨z0, z1⟩ := B_range l k
      rw [hz] at bs z0 z1
      have cs : Hid (capL l (k + 1) = capL l k ++ [Value.int .u8 (capZ z)]) := by unfold Hid; rw [capL_succ l k (by rw [← sl.out]; exact hlt), hz]
      have kw : IntKind.i64.wrap ((k : Int) + 1) = (k : Int) + 1 := by rw [IntKind.wrap_i64]; omega
      have hbz := HI.out.2.size
      clear hz
      by_cases h1 : 97 ≤ z
      · by_cases h2 : z ≤ 122
        · have ec : capZ z = z - 32 := if_pos ⟨h1, h2⟩
          have w1 : IntKind.u8.wrap (z - 32) = z - 32 := by rw [IntKind.wrap_u8]; omega
          rw [ec] at cs
          clear ec
          gi_wp2_with (gi_at_builtin; refine wpListIn_append_own _ rfl _ _ 58 rfl w.heap.size 5 i0 (.int .u8 0) 1 1 undB hi hz0 hz1 hz2 rfl (by decide) _ k (capL l k) rfl (HI.out.1.alloc _) ⟨wr.heap.size, 0, none⟩ 1 1 [.int .u8 (z - 32)] rfl rfl (one_cell_u8 _ _ _) (by simp [Value.oneCell']) (by unfold maxLen; omega) (by omega) (by simp; omega) ?_; intro v' w3 hown' hgrow _)
          have hb3 : Below w.heap.size w w3 := (HI.out.2.alloc (by omega) _).grown hgrow (by simp; omega) (fun k hk => (HI.out.1.lt k hk).1)
          go_roundw
          case rel => exact ⟨k + 1, by go_num, by omega, by rw [cs.out]; exact ⟨hown', hb3⟩⟩
          case measure => simp [intOf]; omega
        · have ec : capZ z = z := if_neg (by omega)
          rw [ec] at cs
          clear ec
          gi_wp2_with (gi_at_builtin; refine wpListIn_append_own _ rfl _ _ 58 rfl w.heap.size 5 i0 (.int .u8 0) 1 1 undB hi hz0 hz1 hz2 rfl (by decide) _ k (capL l k) rfl (HI.out.1.alloc _) ⟨wr.heap.size, 0, none⟩ 1 1 [.int .u8 z] rfl rfl (one_cell_u8 _ _ _) (by simp [Value.oneCell']) (by unfold maxLen; omega) (by omega) (by simp; omega) ?_; intro v' w3 hown' hgrow _)
          have hb3 : Below w.heap.size w w3 := (HI.out.2.alloc (by omega) _).grown hgrow (by simp; omega) (fun k hk => (HI.out.1.lt k hk).1)
          go_roundw
          case rel => exact ⟨k + 1, by go_num, by omega, by rw [cs.out]; exact ⟨hown', hb3⟩⟩
          case measure => simp [intOf]; omega
      · have ec : capZ z = z := if_neg (by omega)
        rw [ec] at cs
        clear ec
        gi_wp2_with (gi_at_builtin; refine wpListIn_append_own _ rfl _ _ 58 rfl w.heap.size 5 i0 (.int .u8 0) 1 1 undB hi hz0 hz1 hz2 rfl (by decide) _ k (capL l k) rfl (HI.out.1.alloc _) ⟨wr.heap.size, 0, none⟩ 1 1 [.int .u8 z] rfl rfl (one_cell_u8 _ _ _) (by simp [Value.oneCell']) (by unfold maxLen; omega) (by omega) (by simp; omega) ?_; intro v' w3 hown' hgrow _)
        have hb3 : Below w.heap.size w w3 := (HI.out.2.alloc (by omega) _).grown hgrow (by simp; omega) (fun k hk => (HI.out.1.lt k hk).1)
        go_roundw
        case rel => exact ⟨k + 1, by go_num, by omega, by rw [cs.out]; exact ⟨hown', hb3⟩⟩
        case measure => simp [intOf]; omega
    · have klt : ¬ (k : Int) < (s.size : Int) := by omega
      have ek : k = l.length := by have := sl.out; omega
      subst ek
      rcases HI.out.1.2 with ⟨rfl, h0⟩ | ⟨g, cap, cur, rfl, hg, hh, hc⟩
      · have el : Hid (l = []) := List.eq_nil_of_length_eq_zero h0
        have STR : ∀ W, (convert 58 9 (.slice none 0 0)).run Tryd.prog W = .ok (.string { data := #[] }) W := fun W => by
          rw [run_convert_bytes_string W 58 9 5 none 0 0 undB undU8 undS9]
          simp [Conv.bytesToString, Sem.run_pure]
          rfl
        gi_wp2
        go_ret
        exact ⟨⟨_, rfl, by rw [el.out]; rfl⟩, HI.out.2⟩
      · have CL := HI.out.1.cells (g := g) rfl
        have hlen : (l.map capB).length = l.length := by simp
        have STR := run_convert_bytes_back (P := Tryd.prog) wr 58 9 5 ⟨g, 0, none⟩ cap (l.map capB) undB undU8 undS9 (fun q hq => by
          refine CL q _ ?_
          have hq' : q < l.length := by simpa using hq
          unfold capL
          rw [List.take_length, List.getElem?_map, List.getElem?_eq_getElem hq']
          simp [capB_int])
        rw [hlen] at STR
        clear CL hh hc hlen
        gi_wp2
        go_ret
        exact ⟨⟨_, rfl, rfl⟩, HI.out.2⟩
theorem ref_any (a b : Int) (w : World) : Calls Tryd.prog 29 #[.int .i64 a, .int .i64 b] w fun e w' => e = .returned (Value.agg #[Value.int .i64 (a), Value.int .i64 (b), Value.bool false, Value.bool false]) ∧ Below w.heap.size w w' := by
  have p := BoxR.new w 0 0 false false
  obtain ⟨a0, a1, a2, a3⟩ := p
  have f := fun j => froz_newC w #[.int .i64 0, .int .i64 0, .bool false, .bool false] 23 j
  have f0 := f 0; have f1 := f 1; have f2 := f 2; have f3 := f 3
  clear f
  obtain ⟨W, hW⟩ : ∃ W, w.alloc (.cells #[.int .i64 0, .int .i64 0, .bool false, .bool false] 23) = W := ⟨_, rfl⟩
  have hb : Below w.heap.size w W := by rw [← hW]; exact (Below.refl _ _).alloc (Nat.le_refl _) _
  rw [hW] at a0 a1 a2 a3 f0 f1 f2 f3
  have HB := Lib.hid hb
  clear hb
  go_enter Tryd.func29, Tryd.ntmps29
  go_wp2
  refine bodyPost_ret (v := (Value.agg #[Value.int .i64 (a), Value.int .i64 (b), Value.bool false, Value.bool false])) (by simp [results, Tryd.results29, go_sem, *]) rfl ⟨rfl, ?_⟩
  exact (((HB.out.setCell (Nat.le_refl _) _).setCell (Nat.le_refl _) _).setCell (Nat.le_refl _) _).setCell (Nat.le_refl _) _
end Go.Proofs.YtikcggbkkgipoaaDoor
