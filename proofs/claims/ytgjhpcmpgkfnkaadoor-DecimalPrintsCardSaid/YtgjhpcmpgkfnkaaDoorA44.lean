/-
  The document's decimals: Print: walked.
-/
import Derived.Test.YtgjhpcmpgkfnkaaDoorA43
import Derived.Deep.RegionHeld3
namespace Go.Proofs.YtgjhpcmpgkfnkaaDoor
open Go.RowKit Go.Shelf

theorem run_slice_str (s : ByteArray) (l h : Nat) (hl : l ≤ h) (hh : h ≤ s.size) (_hb : s.size ≤ 100000) (w : World) :
    (Instr.slice 9 (.string s) (some (.int .i64 (l : Int))) (some (.int .i64 (h : Int))) none).run Tryd.prog w = .ok (.string (s.extract l h)) w := by
  have h1 : (0 : Int) ≤ (h : Int) := by omega
  have h2 : (h : Int) ≤ (s.size : Int) := by omega
  have h3 : (0 : Int) ≤ (l : Int) := by omega
  have h4 : (l : Int) ≤ (h : Int) := by omega
  simp [Instr.slice, go_sem, *]
def digLit : ByteArray := { data := #[48, 49, 50, 51, 52, 53, 54, 55, 56, 57] }
theorem dig_cut : ∀ k : Nat, k < 10 → (digLit.extract k (k + 1)).data.toList = [UInt8.ofNat (48 + k)] := by decide +kernel
set_option maxRecDepth 100000 in
set_option maxHeartbeats 8000000 in
theorem rnumber_any (k : Nat) : ∀ (w : World), k ≤ 300000 →
    Calls Tryd.prog 41 #[.int .i64 (k : Int)] w fun e w' => (∃ S : ByteArray, e = .returned (.string S) ∧ S.data.toList = Lib.decDigits k) ∧ w = w' := by
  induction k using Nat.strongRecOn with
  | ind k ih =>
    intro w hk
    have w1 : IntKind.i64.wrap ((k : Int) + 1) = (k : Int) + 1 := by rw [IntKind.wrap_i64]; omega
    by_cases h : k < 10
    · have h' : (k : Int) < 10 := by omega
      have k0 : (0 : Int) ≤ (k : Int) := by omega
      have k1 : (k : Int) + 1 ≤ 10 := by omega
      have HC := Lib.hid (dig_cut k h)
      have HD := Lib.hid (Lib.decDigits_one h)
      have hsl : ∀ W, (Instr.slice 9 (.string { data := #[48, 49, 50, 51, 52, 53, 54, 55, 56, 57] }) (some (.int .i64 (k : Int))) (some (.int .i64 ((k : Int) + 1))) none).run Tryd.prog W = .ok (.string (digLit.extract k (k + 1))) W := fun W => run_slice_str digLit k (k + 1) (by omega) (by show k + 1 ≤ 10; omega) (by decide) W
      generalize digLit.extract k (k + 1) = S at *
      clear ih
      go_enter Tryd.func41, Tryd.ntmps41
      go_wp2
      go_ret
      exact ⟨⟨_, rfl, by rw [HC.out, HD.out]⟩, rfl⟩
    · have h' : ¬ (k : Int) < 10 := by omega
      have t1 : (k : Int).tdiv 10 = ((k / 10 : Nat) : Int) := by rw [Int.tdiv_eq_ediv_of_nonneg (by omega)]; omega
      have t2 : (k : Int).tmod 10 = ((k % 10 : Nat) : Int) := by rw [Int.tmod_eq_emod_of_nonneg (by omega)]; omega
      have I1 := Lib.hid (fun W => ih (k / 10) (by omega) W (by omega))
      have I2 := Lib.hid (fun W => ih (k % 10) (by omega) W (by omega))
      have ED : Hid (Lib.decDigits k = Lib.decDigits (k / 10) ++ Lib.decDigits (k % 10)) := by
        unfold Hid
        rw [Lib.decDigits, dif_neg h, Lib.decDigits_one (show k % 10 < 10 by omega)]
      have l1 := dec_len (k / 10)
      have l2 := dec_len (k % 10)
      have ab : k / 10 ≤ 300000 ∧ k % 10 ≤ 300000 := by omega
      generalize k / 10 = a at *
      generalize k % 10 = b at *
      have w2 : IntKind.i64.wrap (a : Int) = (a : Int) := by rw [IntKind.wrap_i64]; omega
      have w3 : IntKind.i64.wrap (b : Int) = (b : Int) := by rw [IntKind.wrap_i64]; omega
      clear ih
      go_enter Tryd.func41, Tryd.ntmps41
      go_wp2_with fail
      refine (I1.out _).mono ?_
      rintro e w2 ⟨⟨S1, rfl, hS1⟩, rfl⟩
      go_wp2_with fail
      refine (I2.out _).mono ?_
      rintro e w2 ⟨⟨S2, rfl, hS2⟩, rfl⟩
      have z1 : S1.size ≤ 300001 := by rw [bytes_size, hS1]; omega
      have z2 : S2.size ≤ 300001 := by rw [bytes_size, hS2]; omega
      have hov : ¬ 9223372036854775807 < S1.size + S2.size := by omega
      obtain ⟨F, hF, lF⟩ := app_of S1 S2 _ _ hS1 hS2
      have LF := Lib.hid lF
      clear lF hS1 hS2
      go_wp2
      go_ret
      exact ⟨⟨_, rfl, by rw [LF.out, ED.out]⟩, rfl⟩
/-- One byte in a row of its own, as a string. -/
theorem one_conv (W : World) (z : Int) (z0 : 0 ≤ z) (z1 : z < 256) :
    (convert 43 9 (.slice (some ⟨W.heap.size, 0, none⟩) 1 1)).run Tryd.prog (W.alloc (.cells #[.int .u8 z] 5)) = .ok (.string ⟨#[UInt8.ofNat z.toNat]⟩) (W.alloc (.cells #[.int .u8 z] 5)) := by
  have e : ((UInt8.ofNat z.toNat).toNat : Int) = z := by rw [UInt8.toNat_ofNat']; omega
  refine run_convert_bytes_back (W.alloc (.cells #[.int .u8 z] 5)) 43 9 5 ⟨W.heap.size, 0, none⟩ 1 [UInt8.ofNat z.toNat] Tryd.underlying43 Tryd.underlying5 Tryd.underlying9 (fun j hj => ?_)
  have j0 : j = 0 := by simpa using hj
  subst j0
  have h : [UInt8.ofNat z.toNat][0] = UInt8.ofNat z.toNat := rfl
  rw [h, e, Addr.add_lit, World.cell?_alloc_at _ _ _ _ rfl]; rfl
def sgT (b : Bool) : List UInt8 := if b = true then [45] else []
/-- The first digits of a row that goes on with zeros, the point behind m of them. -/
def preT (l : List UInt8) (m k : Nat) : List UInt8 := if k ≤ m then (l ++ List.replicate m 48).take k else l.take m ++ [46] ++ (l.drop m).take (k - m)
theorem BP_pad {l : List UInt8} {m k : Nat} (h : k < m) : (l ++ List.replicate m 48).take (k + 1) = (l ++ List.replicate m 48).take k ++ [UInt8.ofNat (BP l k).toNat] := by
  have hl : k < (l ++ List.replicate m 48).length := by rw [List.length_append, List.length_replicate]; omega
  rw [List.take_succ_eq_append_getElem hl]
  congr 2
  unfold BP
  by_cases hk : k < l.length
  · rw [if_pos hk, List.getElem_append_left hk, B_cons hk]; simp
  · rw [if_neg hk, List.getElem_append_right (by omega), List.getElem_replicate]; rfl
theorem pre_lo {l : List UInt8} {m k : Nat} (h : k < m) : preT l m (k + 1) = preT l m k ++ [UInt8.ofNat (BP l k).toNat] := by
  unfold preT; rw [if_pos (show k + 1 ≤ m from h), if_pos (Nat.le_of_lt h)]; exact BP_pad h
theorem BP_B {l : List UInt8} {k : Nat} (h : k < l.length) : UInt8.ofNat (BP l k).toNat = l[k] := by
  unfold BP; rw [if_pos h, B_cons h]; simp
theorem pre_at {l : List UInt8} {m : Nat} (h : m < l.length) : preT l m (m + 1) = preT l m m ++ [46] ++ [UInt8.ofNat (BP l m).toNat] := by
  unfold preT
  rw [if_neg (by omega), if_pos (Nat.le_refl _), List.take_append_of_le_length (by omega), BP_B h, show m + 1 - m = 0 + 1 by omega]
  congr 1
  rw [List.take_succ_eq_append_getElem (by rw [List.length_drop]; omega)]
  simp
theorem pre_hi {l : List UInt8} {m k : Nat} (h : m < k) (hk : k < l.length) : preT l m (k + 1) = preT l m k ++ [UInt8.ofNat (BP l k).toNat] := by
  unfold preT
  rw [if_neg (by omega), if_neg (by omega), BP_B hk, show k + 1 - m = (k - m) + 1 by omega, List.take_succ_eq_append_getElem (by rw [List.length_drop]; omega), List.getElem_drop]
  simp only [show m + (k - m) = k by omega, List.append_assoc]
theorem pre_len (l : List UInt8) (m k : Nat) : (preT l m k).length ≤ k + 1 := by
  unfold preT
  by_cases h : k ≤ m
  · rw [if_pos h, List.length_take]; omega
  · rw [if_neg h, List.length_append, List.length_append, List.length_take, List.length_take, List.length_singleton]; omega
theorem pre_end {l : List UInt8} {m k : Nat} (h1 : m ≤ k) (h2 : l.length ≤ k) (h3 : k = m ∨ k = l.length) : preT l m k = if (l.length : Int) ≤ (m : Int) then l ++ List.replicate (m - l.length) 48 else l.take m ++ [46] ++ l.drop m := by
  unfold preT
  by_cases h : l.length ≤ m
  · have e : k = m := by omega
    rw [if_pos (by omega), if_pos (by omega), e, List.take_append, List.take_of_length_le h, List.take_replicate, Nat.min_eq_left (by omega)]
  · have e : k = l.length := by omega
    have ht : (l.drop m).take (l.length - m) = l.drop m := List.take_of_length_le (by rw [List.length_drop]; omega)
    rw [if_neg (by omega), if_neg (by omega), e, ht]
set_option maxRecDepth 100000 in
set_option maxHeartbeats 8000000 in
theorem rprint_not (b : Bool) (s : ByteArray) (x : Int) (w : World) (hs : s.size ≤ 1000000) (hr : rightV s.data.toList x = false) :
    Calls Tryd.prog 25 #[.agg #[.bool b, .string s, .int .i64 x]] w (StrPost (printT b s.data.toList x) w) := by
  have RA := Lib.hid (fun W => rright_any b s x W hs)
  rw [hr] at RA
  have A : Hid (printT b s.data.toList x = []) := by unfold Hid printT; rw [hr]; rfl
  generalize printT b s.data.toList x = v at *
  clear hs hr
  obtain ⟨W, hW, ⟨e0, e1, e2⟩, hbW, sz⟩ := boxD1 w b s x
  have KS : Hid (∀ A Z : World, ((A.cell? ⟨w.heap.size, 0, none⟩ = some (.bool b) ∧ A.cell? ⟨w.heap.size, 1, none⟩ = some (.string s) ∧ A.cell? ⟨w.heap.size, 2, none⟩ = some (.int .i64 x)) ∧ ((w.heap.size < A.heap.size) ∧ Below w.heap.size w A)) → Below A.heap.size A Z → ((Z.cell? ⟨w.heap.size, 0, none⟩ = some (.bool b) ∧ Z.cell? ⟨w.heap.size, 1, none⟩ = some (.string s) ∧ Z.cell? ⟨w.heap.size, 2, none⟩ = some (.int .i64 x)) ∧ ((w.heap.size < Z.heap.size) ∧ Below w.heap.size w Z))) := by
    rintro A Z ⟨⟨h0, h1, h2⟩, l0, hb⟩ hx
    have hz := hx.size
    refine ⟨⟨(hx.cell (p := ⟨w.heap.size, 0, none⟩) l0).trans h0, (hx.cell (p := ⟨w.heap.size, 1, none⟩) l0).trans h1, (hx.cell (p := ⟨w.heap.size, 2, none⟩) l0).trans h2⟩, by omega, via hb hx⟩
  have ST : Hid ((W.cell? ⟨w.heap.size, 0, none⟩ = some (.bool b) ∧ W.cell? ⟨w.heap.size, 1, none⟩ = some (.string s) ∧ W.cell? ⟨w.heap.size, 2, none⟩ = some (.int .i64 x)) ∧ ((w.heap.size < W.heap.size) ∧ Below w.heap.size w W)) := ⟨⟨e0, e1, e2⟩, by omega, hbW⟩
  clear hbW sz e0 e1 e2
  obtain ⟨⟨z0, z1, z2⟩, zl, zB⟩ := ST.out
  clear zl zB
  go_enter Tryd.func25, Tryd.ntmps25
  go_wp2_with fail
  refine (RA.out _).mono ?_
  rintro e w1x ⟨rfl, hb⟩
  have ST1 := Lib.hid (KS.out _ _ ST.out hb)
  clear hb
  clear z0 z1 z2
  obtain ⟨⟨z0, z1, z2⟩, zl, zB⟩ := ST1.out
  clear zl zB
  go_wp2
  go_ret
  exact ⟨_, rfl, by rw [A.out], ST1.out.2.2⟩
set_option maxRecDepth 100000 in
set_option maxHeartbeats 16000000 in
theorem rprint_zero (b : Bool) (s : ByteArray) (x : Int) (w : World) (hr : rightV s.data.toList x = true) (h0 : s.data.toList = []) :
    Calls Tryd.prog 25 #[.agg #[.bool b, .string s, .int .i64 x]] w (StrPost (printT b s.data.toList x) w) := by
  have ln := rightV_len hr
  have SZ := bytes_size s
  have hs : s.size ≤ 1100 := by omega
  have RA := Lib.hid (fun W => rright_any b s x W (by omega))
  rw [hr] at RA
  have PT := Lib.hid (fun W => rpoint_any b s x W (by omega))
  have hp : pointV s.data.toList x = (s.size : Int) + x := by unfold pointV; rw [if_pos hr, SZ]
  rw [hp] at PT
  have PV : Hid (printT b s.data.toList x = sgT b ++ sizeT s.data.toList ((s.size : Int) + x)) := by unfold Hid printT; rw [if_pos hr, hp]; rfl
  clear hp
  have e0 : ((s.size : Int) == 0) = true := beq_iff_eq.2 (by rw [SZ, h0]; rfl)
  have SE : Hid (sizeT s.data.toList ((s.size : Int) + x) = [48]) := by unfold Hid sizeT; rw [if_pos h0]
  generalize printT b s.data.toList x = v at *
  obtain ⟨p, hp⟩ : ∃ p, (s.size : Int) + x = p := ⟨_, rfl⟩
  rw [hp] at PT PV SE
  clear hp hr h0 SZ ln
  obtain ⟨W, hW, ⟨e0, e1, e2⟩, hbW, sz⟩ := boxD1 w b s x
  have KS : Hid (∀ A Z : World, ((A.cell? ⟨w.heap.size, 0, none⟩ = some (.bool b) ∧ A.cell? ⟨w.heap.size, 1, none⟩ = some (.string s) ∧ A.cell? ⟨w.heap.size, 2, none⟩ = some (.int .i64 x)) ∧ ((w.heap.size < A.heap.size) ∧ Below w.heap.size w A)) → Below A.heap.size A Z → ((Z.cell? ⟨w.heap.size, 0, none⟩ = some (.bool b) ∧ Z.cell? ⟨w.heap.size, 1, none⟩ = some (.string s) ∧ Z.cell? ⟨w.heap.size, 2, none⟩ = some (.int .i64 x)) ∧ ((w.heap.size < Z.heap.size) ∧ Below w.heap.size w Z))) := by
    rintro A Z ⟨⟨h0, h1, h2⟩, l0, hb⟩ hx
    have hz := hx.size
    refine ⟨⟨(hx.cell (p := ⟨w.heap.size, 0, none⟩) l0).trans h0, (hx.cell (p := ⟨w.heap.size, 1, none⟩) l0).trans h1, (hx.cell (p := ⟨w.heap.size, 2, none⟩) l0).trans h2⟩, by omega, via hb hx⟩
  have ST : Hid ((W.cell? ⟨w.heap.size, 0, none⟩ = some (.bool b) ∧ W.cell? ⟨w.heap.size, 1, none⟩ = some (.string s) ∧ W.cell? ⟨w.heap.size, 2, none⟩ = some (.int .i64 x)) ∧ ((w.heap.size < W.heap.size) ∧ Below w.heap.size w W)) := ⟨⟨e0, e1, e2⟩, by omega, hbW⟩
  clear hbW sz e0 e1 e2
  obtain ⟨⟨z0, z1, z2⟩, zl, zB⟩ := ST.out
  clear zl zB
  go_enter Tryd.func25, Tryd.ntmps25
  go_wp2_with fail
  refine (RA.out _).mono ?_
  rintro e w1x ⟨rfl, hb⟩
  have ST1 := Lib.hid (KS.out _ _ ST.out hb)
  clear hb
  clear z0 z1 z2
  obtain ⟨⟨z0, z1, z2⟩, zl, zB⟩ := ST1.out
  clear zl zB
  go_upto_if 14 with fail
  go_cut [4] (fun sv wx => ∃ G : ByteArray, sv = .string G ∧ Hid (G.data.toList = sgT b) ∧ G.size ≤ 1 ∧ w1x = wx)
  case first =>
    cases b with
    | true =>
      go_wp2
      go_meet
      exact ⟨⟨#[45]⟩, rfl, rfl, by decide, rfl⟩
    | false =>
      go_wp2
      go_meet
      exact ⟨⟨#[]⟩, rfl, rfl, by decide, rfl⟩
  case rest =>
  obtain ⟨G, rfl, HG, zG, rfl⟩ := hcut
  go_wp2_with fail
  refine (PT.out _).mono ?_
  rintro e w2x ⟨rfl, hb⟩
  have ST2 := Lib.hid (KS.out _ _ ST1.out hb)
  clear hb
  clear z0 z1 z2
  obtain ⟨⟨z0, z1, z2⟩, zl, zB⟩ := ST2.out
  clear zl zB
  obtain ⟨F, hF, lF⟩ := app_of G ⟨#[48]⟩ _ [48] HG.out rfl
  have LF := Lib.hid lF
  have ov : ¬ 9223372036854775807 < G.size + 1 := by omega
  clear lF
  go_wp2
  go_ret
  exact ⟨F, rfl, by rw [LF.out, PV.out, SE.out], ST2.out.2.2⟩
set_option maxRecDepth 100000 in
set_option maxHeartbeats 16000000 in
theorem rprint_digs (b : Bool) (s : ByteArray) (x : Int) (w : World) (hr : rightV s.data.toList x = true) (h0 : s.data.toList ≠ []) (h1 : 1 ≤ (s.size : Int) + x) (h2 : (s.size : Int) + x ≤ 21) :
    Calls Tryd.prog 25 #[.agg #[.bool b, .string s, .int .i64 x]] w (StrPost (printT b s.data.toList x) w) := by
  have ln := rightV_len hr
  have SZ := bytes_size s
  have hs : s.size ≤ 1100 := by omega
  have RA := Lib.hid (fun W => rright_any b s x W (by omega))
  rw [hr] at RA
  have PT := Lib.hid (fun W => rpoint_any b s x W (by omega))
  have hp : pointV s.data.toList x = (s.size : Int) + x := by unfold pointV; rw [if_pos hr, SZ]
  rw [hp] at PT
  have PV : Hid (printT b s.data.toList x = sgT b ++ sizeT s.data.toList ((s.size : Int) + x)) := by unfold Hid printT; rw [if_pos hr, hp]; rfl
  clear hp
  have s0 : s.size ≠ 0 := fun e => h0 (List.eq_nil_of_length_eq_zero (by omega))
  have e0 : ((s.size : Int) == 0) = false := beq_eq_false_iff_ne.2 (by omega)
  obtain ⟨m, hm⟩ : ∃ m : Nat, (s.size : Int) + x = (m : Int) := ⟨((s.size : Int) + x).toNat, by omega⟩
  have AT := Lib.hid (fun (k : Nat) (_ : k ≤ 1200) W => (by have h := rat_any b s x ((m : Int) - 1 - (k : Int)) W (by omega) (by omega) (by omega); rw [show (s.size : Int) - 1 + x - ((m : Int) - 1 - (k : Int)) = (k : Int) by omega, atV_nat] at h; exact h : Calls Tryd.prog 40 #[.agg #[.bool b, .string s, .int .i64 x], .int .i64 ((m : Int) - 1 - (k : Int))] W fun e w' => e = .returned (.int .u8 (BP s.data.toList k)) ∧ Below W.heap.size W w'))
  have SE : Hid (∀ k : Nat, m ≤ k → s.size ≤ k → k = m ∨ k = s.size → sizeT s.data.toList (m : Int) = preT s.data.toList m k) := by
    intro k q1 q2 q3
    rw [pre_end (l := s.data.toList) q1 (by omega) (by omega)]
    unfold sizeT; rw [if_neg h0, if_pos ⟨by omega, by omega⟩]; rfl
  have LO := Lib.hid (fun k (h : k < m) => pre_lo (l := s.data.toList) h)
  have PA : Hid (m < s.size → preT s.data.toList m (m + 1) = preT s.data.toList m m ++ [46] ++ [UInt8.ofNat (BP s.data.toList m).toNat]) := fun h => pre_at (by omega)
  have HI : Hid (∀ k : Nat, m < k → k < s.size → preT s.data.toList m (k + 1) = preT s.data.toList m k ++ [UInt8.ofNat (BP s.data.toList k).toNat]) := fun k q1 q2 => pre_hi q1 (by omega)
  have PL := Lib.hid (fun k => pre_len s.data.toList m k)
  have PZ : Hid (preT s.data.toList m 0 = []) := by unfold Hid preT; rw [if_pos (Nat.zero_le _), List.take_zero]
  have BR := Lib.hid (fun k => BP_range s.data.toList k)
  generalize printT b s.data.toList x = v at *
  rw [hm] at PT PV h1 h2
  generalize s.data.toList = l at *
  have pw : IntKind.i64.wrap ((m : Int) - 1) = (m : Int) - 1 := by rw [IntKind.wrap_i64]; omega
  clear hm hr h0 SZ ln s0
  obtain ⟨W, hW, ⟨e0, e1, e2⟩, hbW, sz⟩ := boxD1 w b s x
  have KS : Hid (∀ A Z : World, ((A.cell? ⟨w.heap.size, 0, none⟩ = some (.bool b) ∧ A.cell? ⟨w.heap.size, 1, none⟩ = some (.string s) ∧ A.cell? ⟨w.heap.size, 2, none⟩ = some (.int .i64 x)) ∧ ((w.heap.size < A.heap.size) ∧ Below w.heap.size w A)) → Below A.heap.size A Z → ((Z.cell? ⟨w.heap.size, 0, none⟩ = some (.bool b) ∧ Z.cell? ⟨w.heap.size, 1, none⟩ = some (.string s) ∧ Z.cell? ⟨w.heap.size, 2, none⟩ = some (.int .i64 x)) ∧ ((w.heap.size < Z.heap.size) ∧ Below w.heap.size w Z))) := by
    rintro A Z ⟨⟨h0, h1, h2⟩, l0, hb⟩ hx
    have hz := hx.size
    refine ⟨⟨(hx.cell (p := ⟨w.heap.size, 0, none⟩) l0).trans h0, (hx.cell (p := ⟨w.heap.size, 1, none⟩) l0).trans h1, (hx.cell (p := ⟨w.heap.size, 2, none⟩) l0).trans h2⟩, by omega, via hb hx⟩
  have ST : Hid ((W.cell? ⟨w.heap.size, 0, none⟩ = some (.bool b) ∧ W.cell? ⟨w.heap.size, 1, none⟩ = some (.string s) ∧ W.cell? ⟨w.heap.size, 2, none⟩ = some (.int .i64 x)) ∧ ((w.heap.size < W.heap.size) ∧ Below w.heap.size w W)) := ⟨⟨e0, e1, e2⟩, by omega, hbW⟩
  clear hbW sz e0 e1 e2
  obtain ⟨⟨z0, z1, z2⟩, zl, zB⟩ := ST.out
  clear zl zB
  go_enter Tryd.func25, Tryd.ntmps25
  go_wp2_with fail
  refine (RA.out _).mono ?_
  rintro e w1x ⟨rfl, hb⟩
  have ST1 := Lib.hid (KS.out _ _ ST.out hb)
  clear hb
  clear z0 z1 z2
  obtain ⟨⟨z0, z1, z2⟩, zl, zB⟩ := ST1.out
  clear zl zB
  go_upto_if 14 with fail
  go_cut [4] (fun sv wx => ∃ G : ByteArray, sv = .string G ∧ Hid (G.data.toList = sgT b) ∧ G.size ≤ 1 ∧ w1x = wx)
  case first =>
    cases b with
    | true =>
      go_wp2
      go_meet
      exact ⟨⟨#[45]⟩, rfl, rfl, by decide, rfl⟩
    | false =>
      go_wp2
      go_meet
      exact ⟨⟨#[]⟩, rfl, rfl, by decide, rfl⟩
  case rest =>
  obtain ⟨G, rfl, HG, zG, rfl⟩ := hcut
  go_wp2_with fail
  refine (PT.out _).mono ?_
  rintro e w2x ⟨rfl, hb⟩
  have ST2 := Lib.hid (KS.out _ _ ST1.out hb)
  clear hb
  clear z0 z1 z2
  obtain ⟨⟨z0, z1, z2⟩, zl, zB⟩ := ST2.out
  clear zl zB
  go_wp2_with fail
  go_loopw [7, 4] (fun iv sv wx => ∃ (k : Nat) (S : ByteArray), iv = .int .i64 (k : Int) ∧ sv = .string S ∧ Hid (S.data.toList = sgT b ++ preT l m k) ∧ S.size ≤ 2 * k + 3 ∧ k ≤ 1200 ∧ (k ≤ m ∨ k ≤ s.size) ∧ Hid ((wx.cell? ⟨w.heap.size, 0, none⟩ = some (.bool b) ∧ wx.cell? ⟨w.heap.size, 1, none⟩ = some (.string s) ∧ wx.cell? ⟨w.heap.size, 2, none⟩ = some (.int .i64 x)) ∧ ((w.heap.size < wx.heap.size) ∧ Below w.heap.size w wx))) (fun iv _ _ => 2000 - (intOf iv).toNat)
  case atStart => exact ⟨0, G, rfl, rfl, by unfold Hid; rw [PZ.out, List.append_nil]; exact HG.out, by omega, by omega, Or.inl (Nat.zero_le _), ST2⟩
  case round =>
    clear z0 z1 z2
    obtain ⟨k, S, rfl, rfl, HS1, zS, k12, km, HS⟩ := hrel
    by_cases h1k : k < m
    · have c1 : (k : Int) < (m : Int) := by omega
      have c3 : ((k : Int) == (m : Int)) = false := beq_eq_false_iff_ne.2 (by omega)
      obtain ⟨z, hz⟩ : ∃ z, BP l k = z := ⟨_, rfl⟩
      have br := BR.out k
      have AK := Lib.hid (AT.out k (by omega))
      rw [hz] at br AK
      obtain ⟨C, hC⟩ : ∃ C : ByteArray, (⟨#[UInt8.ofNat z.toNat]⟩ : ByteArray) = C := ⟨_, rfl⟩
      have CV := fun W => one_conv W z br.1 br.2
      rw [hC] at CV
      have lC : C.data.toList = [UInt8.ofNat z.toNat] := by rw [← hC]
      have zC : C.size = 1 := by rw [bytes_size, lC]; rfl
      have kw : IntKind.i64.wrap ((m : Int) - 1 - (k : Int)) = (m : Int) - 1 - (k : Int) := by rw [IntKind.wrap_i64]; omega
      have kw2 : IntKind.i64.wrap ((k : Int) + 1) = ((k + 1 : Nat) : Int) := by rw [IntKind.wrap_i64]; omega
      have NX := Lib.hid (LO.out k h1k)
      rw [hz] at NX
      obtain ⟨F, hF, lF⟩ := app_of S C _ _ HS1.out lC
      have ov2 : ¬ 9223372036854775807 < S.size + C.size := by omega
      have zF : F.size = S.size + C.size := by rw [bytes_size, lF, List.length_append, ← HS1.out, ← lC, ← bytes_size, ← bytes_size]
      have LF : Hid (F.data.toList = sgT b ++ preT l m (k + 1)) := by unfold Hid; rw [lF, NX.out]; simp [List.append_assoc]
      clear lF lC hC hz NX
      obtain ⟨⟨z0, z1, z2⟩, zl, zB⟩ := HS.out
      clear zl zB
      go_wp2_with fail
      refine (AK.out _).mono ?_
      rintro e w41x ⟨rfl, hb⟩
      have ST41 := Lib.hid (KS.out _ _ HS.out hb)
      clear hb
      clear z0 z1 z2
      obtain ⟨⟨z0, z1, z2⟩, zl, zB⟩ := ST41.out
      clear zl zB
      go_wp2
      go_roundw
      case rel => exact ⟨k + 1, F, by go_num, rfl, LF, by omega, by omega, by omega, Lib.hid (KS.out _ _ ST41.out (by (repeat' first | exact Below.refl _ _ | assumption | refine Below.drew ?_ | refine Below.alloc ?_ ?_ _ | refine Below.setCell ?_ ?_ _ | refine below_drewN ?_ _ | (simp; done) | omega | (simp; omega))))⟩
      case measure => simp [intOf]; omega
    · have c1 : ¬ (k : Int) < (m : Int) := by omega
      have d1 : decide ((k : Int) < (m : Int)) = false := decide_eq_false c1
      by_cases h2k : k < s.size
      · have c2 : (k : Int) < (s.size : Int) := by omega
        by_cases hkm : k = m
        · have c3 : ((k : Int) == (m : Int)) = true := beq_iff_eq.2 (by omega)
          obtain ⟨z, hz⟩ : ∃ z, BP l k = z := ⟨_, rfl⟩
          have br := BR.out k
          have AK := Lib.hid (AT.out k (by omega))
          rw [hz] at br AK
          obtain ⟨C, hC⟩ : ∃ C : ByteArray, (⟨#[UInt8.ofNat z.toNat]⟩ : ByteArray) = C := ⟨_, rfl⟩
          have CV := fun W => one_conv W z br.1 br.2
          rw [hC] at CV
          have lC : C.data.toList = [UInt8.ofNat z.toNat] := by rw [← hC]
          have zC : C.size = 1 := by rw [bytes_size, lC]; rfl
          have kw : IntKind.i64.wrap ((m : Int) - 1 - (k : Int)) = (m : Int) - 1 - (k : Int) := by rw [IntKind.wrap_i64]; omega
          have kw2 : IntKind.i64.wrap ((k : Int) + 1) = ((k + 1 : Nat) : Int) := by rw [IntKind.wrap_i64]; omega
          subst hkm
          have NX := Lib.hid (PA.out h2k)
          rw [hz] at NX
          obtain ⟨D, hD, lD⟩ := app_of S ⟨#[46]⟩ _ [46] HS1.out rfl
          have zD : D.size = S.size + 1 := by rw [bytes_size, lD, List.length_append, ← HS1.out, ← bytes_size]; rfl
          have ov1 : ¬ 9223372036854775807 < S.size + 1 := by omega
          obtain ⟨F, hF, lF⟩ := app_of D C _ _ lD lC
          have ov2 : ¬ 9223372036854775807 < D.size + C.size := by omega
          have zF : F.size = D.size + C.size := by rw [bytes_size, lF, List.length_append, ← lD, ← lC, ← bytes_size, ← bytes_size]
          have LF : Hid (F.data.toList = sgT b ++ preT l k (k + 1)) := by unfold Hid; rw [lF, NX.out]; simp [List.append_assoc]
          clear lF lD lC hC hz NX
          obtain ⟨⟨z0, z1, z2⟩, zl, zB⟩ := HS.out
          clear zl zB
          go_wp2_with fail
          refine (AK.out _).mono ?_
          rintro e w41x ⟨rfl, hb⟩
          have ST41 := Lib.hid (KS.out _ _ HS.out hb)
          clear hb
          clear z0 z1 z2
          obtain ⟨⟨z0, z1, z2⟩, zl, zB⟩ := ST41.out
          clear zl zB
          go_wp2
          go_roundw
          case rel => exact ⟨k + 1, F, by go_num, rfl, LF, by omega, by omega, by omega, Lib.hid (KS.out _ _ ST41.out (by (repeat' first | exact Below.refl _ _ | assumption | refine Below.drew ?_ | refine Below.alloc ?_ ?_ _ | refine Below.setCell ?_ ?_ _ | refine below_drewN ?_ _ | (simp; done) | omega | (simp; omega))))⟩
          case measure => simp [intOf]; omega
        · have c3 : ((k : Int) == (m : Int)) = false := beq_eq_false_iff_ne.2 (by omega)
          obtain ⟨z, hz⟩ : ∃ z, BP l k = z := ⟨_, rfl⟩
          have br := BR.out k
          have AK := Lib.hid (AT.out k (by omega))
          rw [hz] at br AK
          obtain ⟨C, hC⟩ : ∃ C : ByteArray, (⟨#[UInt8.ofNat z.toNat]⟩ : ByteArray) = C := ⟨_, rfl⟩
          have CV := fun W => one_conv W z br.1 br.2
          rw [hC] at CV
          have lC : C.data.toList = [UInt8.ofNat z.toNat] := by rw [← hC]
          have zC : C.size = 1 := by rw [bytes_size, lC]; rfl
          have kw : IntKind.i64.wrap ((m : Int) - 1 - (k : Int)) = (m : Int) - 1 - (k : Int) := by rw [IntKind.wrap_i64]; omega
          have kw2 : IntKind.i64.wrap ((k : Int) + 1) = ((k + 1 : Nat) : Int) := by rw [IntKind.wrap_i64]; omega
          have NX := Lib.hid (HI.out k (by omega) h2k)
          rw [hz] at NX
          obtain ⟨F, hF, lF⟩ := app_of S C _ _ HS1.out lC
          have ov2 : ¬ 9223372036854775807 < S.size + C.size := by omega
          have zF : F.size = S.size + C.size := by rw [bytes_size, lF, List.length_append, ← HS1.out, ← lC, ← bytes_size, ← bytes_size]
          have LF : Hid (F.data.toList = sgT b ++ preT l m (k + 1)) := by unfold Hid; rw [lF, NX.out]; simp [List.append_assoc]
          clear lF lC hC hz NX
          obtain ⟨⟨z0, z1, z2⟩, zl, zB⟩ := HS.out
          clear zl zB
          go_wp2_with fail
          refine (AK.out _).mono ?_
          rintro e w41x ⟨rfl, hb⟩
          have ST41 := Lib.hid (KS.out _ _ HS.out hb)
          clear hb
          clear z0 z1 z2
          obtain ⟨⟨z0, z1, z2⟩, zl, zB⟩ := ST41.out
          clear zl zB
          go_wp2
          go_roundw
          case rel => exact ⟨k + 1, F, by go_num, rfl, LF, by omega, by omega, by omega, Lib.hid (KS.out _ _ ST41.out (by (repeat' first | exact Below.refl _ _ | assumption | refine Below.drew ?_ | refine Below.alloc ?_ ?_ _ | refine Below.setCell ?_ ?_ _ | refine below_drewN ?_ _ | (simp; done) | omega | (simp; omega))))⟩
          case measure => simp [intOf]; omega
      · have c2 : ¬ (k : Int) < (s.size : Int) := by omega
        have d2 : decide ((k : Int) < (s.size : Int)) = false := decide_eq_false c2
        have LF : Hid (S.data.toList = v) := by unfold Hid; rw [HS1.out, PV.out, SE.out k (by omega) (by omega) (by omega)]
        obtain ⟨⟨z0, z1, z2⟩, zl, zB⟩ := HS.out
        clear zl zB
        go_wp2
        go_ret
        exact ⟨S, rfl, LF.out, HS.out.2.2⟩
set_option maxRecDepth 100000 in
set_option maxHeartbeats 16000000 in
theorem rprint_small (b : Bool) (s : ByteArray) (x : Int) (w : World) (hr : rightV s.data.toList x = true) (h0 : s.data.toList ≠ []) (h1 : -5 ≤ (s.size : Int) + x) (h2 : (s.size : Int) + x ≤ 0) :
    Calls Tryd.prog 25 #[.agg #[.bool b, .string s, .int .i64 x]] w (StrPost (printT b s.data.toList x) w) := by
  have ln := rightV_len hr
  have SZ := bytes_size s
  have hs : s.size ≤ 1100 := by omega
  have RA := Lib.hid (fun W => rright_any b s x W (by omega))
  rw [hr] at RA
  have PT := Lib.hid (fun W => rpoint_any b s x W (by omega))
  have hp : pointV s.data.toList x = (s.size : Int) + x := by unfold pointV; rw [if_pos hr, SZ]
  rw [hp] at PT
  have PV : Hid (printT b s.data.toList x = sgT b ++ sizeT s.data.toList ((s.size : Int) + x)) := by unfold Hid printT; rw [if_pos hr, hp]; rfl
  clear hp
  have s0 : s.size ≠ 0 := fun e => h0 (List.eq_nil_of_length_eq_zero (by omega))
  have e0 : ((s.size : Int) == 0) = false := beq_eq_false_iff_ne.2 (by omega)
  obtain ⟨p, hp⟩ : ∃ p, (s.size : Int) + x = p := ⟨_, rfl⟩
  rw [hp] at PT PV h1 h2
  obtain ⟨q, hq⟩ : ∃ q : Nat, -p = (q : Int) := ⟨(-p).toNat, by omega⟩
  have SE : Hid (sizeT s.data.toList p = [48, 46] ++ List.replicate q 48 ++ s.data.toList) := by
    unfold Hid sizeT; rw [if_neg h0, if_neg (by omega), if_pos ⟨h1, h2⟩, show (-p).toNat = q by omega]
  generalize printT b s.data.toList x = v at *
  have pw : IntKind.i64.wrap (-p) = (q : Int) := by rw [IntKind.wrap_i64]; omega
  have q5 : q ≤ 5 := by omega
  have g1 : ¬ 1 ≤ p := by omega
  have d1 : decide (1 ≤ p) = false := decide_eq_false g1
  obtain ⟨l, hl⟩ : ∃ l, s.data.toList = l := ⟨_, rfl⟩
  rw [hl] at SE PV
  have HL := Lib.hid hl
  clear hp hq hr h0 SZ ln s0 hl
  obtain ⟨W, hW, ⟨e0, e1, e2⟩, hbW, sz⟩ := boxD1 w b s x
  have KS : Hid (∀ A Z : World, ((A.cell? ⟨w.heap.size, 0, none⟩ = some (.bool b) ∧ A.cell? ⟨w.heap.size, 1, none⟩ = some (.string s) ∧ A.cell? ⟨w.heap.size, 2, none⟩ = some (.int .i64 x)) ∧ ((w.heap.size < A.heap.size) ∧ Below w.heap.size w A)) → Below A.heap.size A Z → ((Z.cell? ⟨w.heap.size, 0, none⟩ = some (.bool b) ∧ Z.cell? ⟨w.heap.size, 1, none⟩ = some (.string s) ∧ Z.cell? ⟨w.heap.size, 2, none⟩ = some (.int .i64 x)) ∧ ((w.heap.size < Z.heap.size) ∧ Below w.heap.size w Z))) := by
    rintro A Z ⟨⟨h0, h1, h2⟩, l0, hb⟩ hx
    have hz := hx.size
    refine ⟨⟨(hx.cell (p := ⟨w.heap.size, 0, none⟩) l0).trans h0, (hx.cell (p := ⟨w.heap.size, 1, none⟩) l0).trans h1, (hx.cell (p := ⟨w.heap.size, 2, none⟩) l0).trans h2⟩, by omega, via hb hx⟩
  have ST : Hid ((W.cell? ⟨w.heap.size, 0, none⟩ = some (.bool b) ∧ W.cell? ⟨w.heap.size, 1, none⟩ = some (.string s) ∧ W.cell? ⟨w.heap.size, 2, none⟩ = some (.int .i64 x)) ∧ ((w.heap.size < W.heap.size) ∧ Below w.heap.size w W)) := ⟨⟨e0, e1, e2⟩, by omega, hbW⟩
  clear hbW sz e0 e1 e2
  obtain ⟨⟨z0, z1, z2⟩, zl, zB⟩ := ST.out
  clear zl zB
  go_enter Tryd.func25, Tryd.ntmps25
  go_wp2_with fail
  refine (RA.out _).mono ?_
  rintro e w1x ⟨rfl, hb⟩
  have ST1 := Lib.hid (KS.out _ _ ST.out hb)
  clear hb
  clear z0 z1 z2
  obtain ⟨⟨z0, z1, z2⟩, zl, zB⟩ := ST1.out
  clear zl zB
  go_upto_if 14 with fail
  go_cut [4] (fun sv wx => ∃ G : ByteArray, sv = .string G ∧ Hid (G.data.toList = sgT b) ∧ G.size ≤ 1 ∧ w1x = wx)
  case first =>
    cases b with
    | true =>
      go_wp2
      go_meet
      exact ⟨⟨#[45]⟩, rfl, rfl, by decide, rfl⟩
    | false =>
      go_wp2
      go_meet
      exact ⟨⟨#[]⟩, rfl, rfl, by decide, rfl⟩
  case rest =>
  obtain ⟨G, rfl, HG, zG, rfl⟩ := hcut
  go_wp2_with fail
  refine (PT.out _).mono ?_
  rintro e w2x ⟨rfl, hb⟩
  have ST2 := Lib.hid (KS.out _ _ ST1.out hb)
  clear hb
  clear z0 z1 z2
  obtain ⟨⟨z0, z1, z2⟩, zl, zB⟩ := ST2.out
  clear zl zB
  obtain ⟨D, hD, lD⟩ := app_of G ⟨#[48, 46]⟩ _ [48, 46] HG.out rfl
  have zD : D.size = G.size + 2 := by rw [bytes_size, lD, List.length_append, ← HG.out, ← bytes_size]; rfl
  have ov : ¬ 9223372036854775807 < G.size + 2 := by omega
  have LD := Lib.hid lD
  clear lD
  go_wp2_with fail
  go_loopw [8, 4] (fun iv sv wx => ∃ (k : Nat) (S : ByteArray), iv = .int .i64 (k : Int) ∧ sv = .string S ∧ Hid (S.data.toList = sgT b ++ [48, 46] ++ List.replicate k 48) ∧ S.size ≤ k + 3 ∧ k ≤ q ∧ Hid ((wx.cell? ⟨w.heap.size, 0, none⟩ = some (.bool b) ∧ wx.cell? ⟨w.heap.size, 1, none⟩ = some (.string s) ∧ wx.cell? ⟨w.heap.size, 2, none⟩ = some (.int .i64 x)) ∧ ((w.heap.size < wx.heap.size) ∧ Below w.heap.size w wx))) (fun iv _ _ => 2000 - (intOf iv).toNat)
  case atStart => exact ⟨0, D, rfl, rfl, by unfold Hid; rw [LD.out, List.replicate_zero, List.append_nil], by omega, Nat.zero_le _, ST2⟩
  case round =>
    clear z0 z1 z2
    obtain ⟨k, S, rfl, rfl, HS1, zS, kq, HS⟩ := hrel
    obtain ⟨⟨z0, z1, z2⟩, zl, zB⟩ := HS.out
    clear zl zB
    by_cases hk : k < q
    · have c1 : (k : Int) < (q : Int) := by omega
      have kw2 : IntKind.i64.wrap ((k : Int) + 1) = ((k + 1 : Nat) : Int) := by rw [IntKind.wrap_i64]; omega
      obtain ⟨F, hF, lF⟩ := app_of S ⟨#[48]⟩ _ [48] HS1.out rfl
      have ov1 : ¬ 9223372036854775807 < S.size + 1 := by omega
      have zF : F.size = S.size + 1 := by rw [bytes_size, lF, List.length_append, ← HS1.out, ← bytes_size]; rfl
      have LF : Hid (F.data.toList = sgT b ++ [48, 46] ++ List.replicate (k + 1) 48) := by unfold Hid; rw [lF, List.replicate_succ', List.append_assoc]
      clear lF
      go_wp2
      go_roundw
      case rel => exact ⟨k + 1, F, by go_num, rfl, LF, by omega, by omega, HS⟩
      case measure => simp [intOf]; omega
    · have c1 : ¬ (k : Int) < (q : Int) := by omega
      obtain rfl : k = q := by omega
      obtain ⟨F, hF, lF⟩ := app_of S s _ _ HS1.out HL.out
      have ov1 : ¬ 9223372036854775807 < S.size + s.size := by omega
      have LF : Hid (F.data.toList = v) := by unfold Hid; rw [lF, PV.out, SE.out]; simp [List.append_assoc]
      clear lF
      go_wp2
      go_ret
      exact ⟨F, rfl, LF.out, HS.out.2.2⟩
set_option maxRecDepth 100000 in
set_option maxHeartbeats 16000000 in
theorem rprint_exp (b : Bool) (s : ByteArray) (x : Int) (w : World) (hr : rightV s.data.toList x = true) (h0 : s.data.toList ≠ []) (h1 : ¬ (1 ≤ (s.size : Int) + x ∧ (s.size : Int) + x ≤ 21)) (h2 : ¬ (-5 ≤ (s.size : Int) + x ∧ (s.size : Int) + x ≤ 0)) :
    Calls Tryd.prog 25 #[.agg #[.bool b, .string s, .int .i64 x]] w (StrPost (printT b s.data.toList x) w) := by
  have ln := rightV_len hr
  have SZ := bytes_size s
  have hs : s.size ≤ 1100 := by omega
  have RA := Lib.hid (fun W => rright_any b s x W (by omega))
  rw [hr] at RA
  have PT := Lib.hid (fun W => rpoint_any b s x W (by omega))
  have hp : pointV s.data.toList x = (s.size : Int) + x := by unfold pointV; rw [if_pos hr, SZ]
  rw [hp] at PT
  have PV : Hid (printT b s.data.toList x = sgT b ++ sizeT s.data.toList ((s.size : Int) + x)) := by unfold Hid printT; rw [if_pos hr, hp]; rfl
  clear hp
  have s0 : s.size ≠ 0 := fun e => h0 (List.eq_nil_of_length_eq_zero (by omega))
  have e0 : ((s.size : Int) == 0) = false := beq_eq_false_iff_ne.2 (by omega)
  have s1 : (1 : Int) ≤ (s.size : Int) := by omega
  obtain ⟨p, hp⟩ : ∃ p, (s.size : Int) + x = p := ⟨_, rfl⟩
  rw [hp] at PT PV h1 h2
  have pb : -100000 ≤ p ∧ p ≤ 101100 := by omega
  have SE : Hid (sizeT s.data.toList p = s.data.toList.take 1 ++ (if 1 < s.size then 46 :: s.data.toList.drop 1 else []) ++ (if p - 1 < 0 then [101] else [101, 43]) ++ Lib.itoa (p - 1)) := by
    unfold Hid sizeT expT; rw [if_neg h0, if_neg h1, if_neg h2, SZ]
  generalize printT b s.data.toList x = v at *
  obtain ⟨H, hH⟩ : ∃ H : ByteArray, s.extract 0 1 = H := ⟨_, rfl⟩
  obtain ⟨R, hR⟩ : ∃ H : ByteArray, s.extract 1 s.size = H := ⟨_, rfl⟩
  have lH : H.data.toList = s.data.toList.take 1 := by rw [← hH, Lib.extract_upto]
  have lR : R.data.toList = s.data.toList.drop 1 := by rw [← hR, Lib.extract_from]
  have zH : H.size ≤ 1 := by rw [bytes_size, lH, List.length_take]; omega
  have zR : R.size ≤ 1100 := by rw [bytes_size, lR, List.length_drop]; omega
  have HL := Lib.hid (And.intro lH lR)
  generalize s.data.toList = l at *
  have pw : IntKind.i64.wrap (p - 1) = p - 1 := by rw [IntKind.wrap_i64]; omega
  have pw2 : IntKind.i64.wrap (1 - p) = 1 - p := by rw [IntKind.wrap_i64]; omega
  clear hp hr h0 SZ ln s0 lH lR
  by_cases hm : 1 < s.size
  · have c1 : (1 : Int) < (s.size : Int) := by omega
    by_cases hn : p < 1
    · obtain ⟨n, hn⟩ : ∃ n : Nat, 1 - p = (n : Int) := ⟨(1 - p).toNat, by omega⟩
      replace pw2 := pw2.trans hn
      have IT : Hid (Lib.itoa (p - 1) = 45 :: Lib.decDigits n) := by unfold Hid Lib.itoa; rw [if_pos (by omega), show (p - 1).natAbs = n by omega]
      have g1 : ¬ 1 ≤ p := by omega
      have g2 : ¬ -5 ≤ p := by omega
      have g3 : p - 1 < 0 := by omega
      have d1 : decide (1 ≤ p) = false := decide_eq_false g1
      have d2 : decide (-5 ≤ p) = false := decide_eq_false g2
      have nb : n ≤ 200000 := by omega
      have E : Hid (v = sgT b ++ (l.take 1 ++ (46 :: l.drop 1) ++ [101] ++ (45 :: Lib.decDigits n))) := by unfold Hid; rw [PV.out, SE.out, if_pos (show 1 < s.size by omega), if_pos (show p - 1 < 0 by omega), IT.out]
      have NM := Lib.hid (fun W => rnumber_any n W (by omega))
      have dl := dec_len n
      clear SE IT PV h1 h2 hn pb
      obtain ⟨W, hW, ⟨e0, e1, e2⟩, hbW, sz⟩ := boxD1 w b s x
      have KS : Hid (∀ A Z : World, ((A.cell? ⟨w.heap.size, 0, none⟩ = some (.bool b) ∧ A.cell? ⟨w.heap.size, 1, none⟩ = some (.string s) ∧ A.cell? ⟨w.heap.size, 2, none⟩ = some (.int .i64 x)) ∧ ((w.heap.size < A.heap.size) ∧ Below w.heap.size w A)) → Below A.heap.size A Z → ((Z.cell? ⟨w.heap.size, 0, none⟩ = some (.bool b) ∧ Z.cell? ⟨w.heap.size, 1, none⟩ = some (.string s) ∧ Z.cell? ⟨w.heap.size, 2, none⟩ = some (.int .i64 x)) ∧ ((w.heap.size < Z.heap.size) ∧ Below w.heap.size w Z))) := by
        rintro A Z ⟨⟨h0, h1, h2⟩, l0, hb⟩ hx
        have hz := hx.size
        refine ⟨⟨(hx.cell (p := ⟨w.heap.size, 0, none⟩) l0).trans h0, (hx.cell (p := ⟨w.heap.size, 1, none⟩) l0).trans h1, (hx.cell (p := ⟨w.heap.size, 2, none⟩) l0).trans h2⟩, by omega, via hb hx⟩
      have ST : Hid ((W.cell? ⟨w.heap.size, 0, none⟩ = some (.bool b) ∧ W.cell? ⟨w.heap.size, 1, none⟩ = some (.string s) ∧ W.cell? ⟨w.heap.size, 2, none⟩ = some (.int .i64 x)) ∧ ((w.heap.size < W.heap.size) ∧ Below w.heap.size w W)) := ⟨⟨e0, e1, e2⟩, by omega, hbW⟩
      clear hbW sz e0 e1 e2
      obtain ⟨⟨z0, z1, z2⟩, zl, zB⟩ := ST.out
      clear zl zB
      go_enter Tryd.func25, Tryd.ntmps25
      go_wp2_with fail
      refine (RA.out _).mono ?_
      rintro e w1x ⟨rfl, hb⟩
      have ST1 := Lib.hid (KS.out _ _ ST.out hb)
      clear hb
      clear z0 z1 z2
      obtain ⟨⟨z0, z1, z2⟩, zl, zB⟩ := ST1.out
      clear zl zB
      go_upto_if 14 with fail
      go_cut [4] (fun sv wx => ∃ G : ByteArray, sv = .string G ∧ Hid (G.data.toList = sgT b) ∧ G.size ≤ 1 ∧ w1x = wx)
      case first =>
        cases b with
        | true =>
          go_wp2
          go_meet
          exact ⟨⟨#[45]⟩, rfl, rfl, by decide, rfl⟩
        | false =>
          go_wp2
          go_meet
          exact ⟨⟨#[]⟩, rfl, rfl, by decide, rfl⟩
      case rest =>
      obtain ⟨G, rfl, HG, zG, rfl⟩ := hcut
      go_wp2_with fail
      refine (PT.out _).mono ?_
      rintro e w2x ⟨rfl, hb⟩
      have ST2 := Lib.hid (KS.out _ _ ST1.out hb)
      clear hb
      clear z0 z1 z2
      obtain ⟨⟨z0, z1, z2⟩, zl, zB⟩ := ST2.out
      clear zl zB
      obtain ⟨D1, hD1, lD1⟩ := app_of G H _ _ HG.out HL.out.1
      have zD1 : D1.size = G.size + H.size := by rw [bytes_size, lD1, List.length_append, ← HG.out, ← HL.out.1, ← bytes_size, ← bytes_size]
      have ov1 : ¬ 9223372036854775807 < G.size + H.size := by omega
      obtain ⟨D2, hD2, lD2⟩ := app_of D1 ⟨#[46]⟩ _ [46] lD1 rfl
      have zD2 : D2.size = D1.size + 1 := by rw [bytes_size, lD2, List.length_append, ← lD1, ← bytes_size]; rfl
      have ov2 : ¬ 9223372036854775807 < D1.size + 1 := by omega
      obtain ⟨D3, hD3, lD3⟩ := app_of D2 R _ _ lD2 HL.out.2
      have zD3 : D3.size = D2.size + R.size := by rw [bytes_size, lD3, List.length_append, ← lD2, ← HL.out.2, ← bytes_size, ← bytes_size]
      have ov3 : ¬ 9223372036854775807 < D2.size + R.size := by omega
      obtain ⟨D4, hD4, lD4⟩ := app_of D3 ⟨#[101, 45]⟩ _ [101, 45] lD3 rfl
      have zD4 : D4.size = D3.size + 2 := by rw [bytes_size, lD4, List.length_append, ← lD3, ← bytes_size]; rfl
      have ov4 : ¬ 9223372036854775807 < D3.size + 2 := by omega
      have LD := Lib.hid lD4
      clear lD2 lD3 lD1 lD4
      go_wp2_with fail
      refine (NM.out _).mono ?_
      rintro e w9x ⟨⟨Q, rfl, hQ⟩, rfl⟩
      have zQ : Q.size ≤ 200001 := by rw [bytes_size, hQ]; omega
      obtain ⟨F, hF, lF⟩ := app_of D4 Q _ _ LD.out hQ
      have LF := Lib.hid lF
      have ov5 : ¬ 9223372036854775807 < D4.size + Q.size := by omega
      clear hQ lF
      go_wp2
      go_ret
      exact ⟨F, rfl, by rw [LF.out, E.out]; simp [List.append_assoc], ST2.out.2.2⟩
    · obtain ⟨n, hn⟩ : ∃ n : Nat, p - 1 = (n : Int) := ⟨(p - 1).toNat, by omega⟩
      have IT : Hid (Lib.itoa (p - 1) = Lib.decDigits n) := by unfold Hid Lib.itoa; rw [if_neg (by omega), show (p - 1).toNat = n by omega]
      have g1 : 1 ≤ p := by omega
      have g2 : ¬ p ≤ 21 := by omega
      have g3 : ¬ (n : Int) < 0 := by omega
      have g4 : -5 ≤ p := by omega
      have g5 : ¬ p ≤ 0 := by omega
      have d1 : decide (p ≤ 21) = false := decide_eq_false g2
      have d2 : decide (p ≤ 0) = false := decide_eq_false g5
      have nb : n ≤ 200000 := by omega
      have E : Hid (v = sgT b ++ (l.take 1 ++ (46 :: l.drop 1) ++ [101, 43] ++ (Lib.decDigits n))) := by unfold Hid; rw [PV.out, SE.out, if_pos (show 1 < s.size by omega), if_neg (show ¬ p - 1 < 0 by omega), IT.out]
      replace pw := pw.trans hn
      have NM := Lib.hid (fun W => rnumber_any n W (by omega))
      have dl := dec_len n
      clear SE IT PV h1 h2 hn pb
      obtain ⟨W, hW, ⟨e0, e1, e2⟩, hbW, sz⟩ := boxD1 w b s x
      have KS : Hid (∀ A Z : World, ((A.cell? ⟨w.heap.size, 0, none⟩ = some (.bool b) ∧ A.cell? ⟨w.heap.size, 1, none⟩ = some (.string s) ∧ A.cell? ⟨w.heap.size, 2, none⟩ = some (.int .i64 x)) ∧ ((w.heap.size < A.heap.size) ∧ Below w.heap.size w A)) → Below A.heap.size A Z → ((Z.cell? ⟨w.heap.size, 0, none⟩ = some (.bool b) ∧ Z.cell? ⟨w.heap.size, 1, none⟩ = some (.string s) ∧ Z.cell? ⟨w.heap.size, 2, none⟩ = some (.int .i64 x)) ∧ ((w.heap.size < Z.heap.size) ∧ Below w.heap.size w Z))) := by
        rintro A Z ⟨⟨h0, h1, h2⟩, l0, hb⟩ hx
        have hz := hx.size
        refine ⟨⟨(hx.cell (p := ⟨w.heap.size, 0, none⟩) l0).trans h0, (hx.cell (p := ⟨w.heap.size, 1, none⟩) l0).trans h1, (hx.cell (p := ⟨w.heap.size, 2, none⟩) l0).trans h2⟩, by omega, via hb hx⟩
      have ST : Hid ((W.cell? ⟨w.heap.size, 0, none⟩ = some (.bool b) ∧ W.cell? ⟨w.heap.size, 1, none⟩ = some (.string s) ∧ W.cell? ⟨w.heap.size, 2, none⟩ = some (.int .i64 x)) ∧ ((w.heap.size < W.heap.size) ∧ Below w.heap.size w W)) := ⟨⟨e0, e1, e2⟩, by omega, hbW⟩
      clear hbW sz e0 e1 e2
      obtain ⟨⟨z0, z1, z2⟩, zl, zB⟩ := ST.out
      clear zl zB
      go_enter Tryd.func25, Tryd.ntmps25
      go_wp2_with fail
      refine (RA.out _).mono ?_
      rintro e w1x ⟨rfl, hb⟩
      have ST1 := Lib.hid (KS.out _ _ ST.out hb)
      clear hb
      clear z0 z1 z2
      obtain ⟨⟨z0, z1, z2⟩, zl, zB⟩ := ST1.out
      clear zl zB
      go_upto_if 14 with fail
      go_cut [4] (fun sv wx => ∃ G : ByteArray, sv = .string G ∧ Hid (G.data.toList = sgT b) ∧ G.size ≤ 1 ∧ w1x = wx)
      case first =>
        cases b with
        | true =>
          go_wp2
          go_meet
          exact ⟨⟨#[45]⟩, rfl, rfl, by decide, rfl⟩
        | false =>
          go_wp2
          go_meet
          exact ⟨⟨#[]⟩, rfl, rfl, by decide, rfl⟩
      case rest =>
      obtain ⟨G, rfl, HG, zG, rfl⟩ := hcut
      go_wp2_with fail
      refine (PT.out _).mono ?_
      rintro e w2x ⟨rfl, hb⟩
      have ST2 := Lib.hid (KS.out _ _ ST1.out hb)
      clear hb
      clear z0 z1 z2
      obtain ⟨⟨z0, z1, z2⟩, zl, zB⟩ := ST2.out
      clear zl zB
      obtain ⟨D1, hD1, lD1⟩ := app_of G H _ _ HG.out HL.out.1
      have zD1 : D1.size = G.size + H.size := by rw [bytes_size, lD1, List.length_append, ← HG.out, ← HL.out.1, ← bytes_size, ← bytes_size]
      have ov1 : ¬ 9223372036854775807 < G.size + H.size := by omega
      obtain ⟨D2, hD2, lD2⟩ := app_of D1 ⟨#[46]⟩ _ [46] lD1 rfl
      have zD2 : D2.size = D1.size + 1 := by rw [bytes_size, lD2, List.length_append, ← lD1, ← bytes_size]; rfl
      have ov2 : ¬ 9223372036854775807 < D1.size + 1 := by omega
      obtain ⟨D3, hD3, lD3⟩ := app_of D2 R _ _ lD2 HL.out.2
      have zD3 : D3.size = D2.size + R.size := by rw [bytes_size, lD3, List.length_append, ← lD2, ← HL.out.2, ← bytes_size, ← bytes_size]
      have ov3 : ¬ 9223372036854775807 < D2.size + R.size := by omega
      obtain ⟨D4, hD4, lD4⟩ := app_of D3 ⟨#[101, 43]⟩ _ [101, 43] lD3 rfl
      have zD4 : D4.size = D3.size + 2 := by rw [bytes_size, lD4, List.length_append, ← lD3, ← bytes_size]; rfl
      have ov4 : ¬ 9223372036854775807 < D3.size + 2 := by omega
      have LD := Lib.hid lD4
      clear lD2 lD3 lD1 lD4
      go_wp2_with fail
      refine (NM.out _).mono ?_
      rintro e w9x ⟨⟨Q, rfl, hQ⟩, rfl⟩
      have zQ : Q.size ≤ 200001 := by rw [bytes_size, hQ]; omega
      obtain ⟨F, hF, lF⟩ := app_of D4 Q _ _ LD.out hQ
      have LF := Lib.hid lF
      have ov5 : ¬ 9223372036854775807 < D4.size + Q.size := by omega
      clear hQ lF
      go_wp2
      go_ret
      exact ⟨F, rfl, by rw [LF.out, E.out]; simp [List.append_assoc], ST2.out.2.2⟩
  · have c1 : ¬ (1 : Int) < (s.size : Int) := by omega
    by_cases hn : p < 1
    · obtain ⟨n, hn⟩ : ∃ n : Nat, 1 - p = (n : Int) := ⟨(1 - p).toNat, by omega⟩
      replace pw2 := pw2.trans hn
      have IT : Hid (Lib.itoa (p - 1) = 45 :: Lib.decDigits n) := by unfold Hid Lib.itoa; rw [if_pos (by omega), show (p - 1).natAbs = n by omega]
      have g1 : ¬ 1 ≤ p := by omega
      have g2 : ¬ -5 ≤ p := by omega
      have g3 : p - 1 < 0 := by omega
      have d1 : decide (1 ≤ p) = false := decide_eq_false g1
      have d2 : decide (-5 ≤ p) = false := decide_eq_false g2
      have nb : n ≤ 200000 := by omega
      have E : Hid (v = sgT b ++ (l.take 1 ++ ([]) ++ [101] ++ (45 :: Lib.decDigits n))) := by unfold Hid; rw [PV.out, SE.out, if_neg (show ¬ 1 < s.size by omega), if_pos (show p - 1 < 0 by omega), IT.out]
      have NM := Lib.hid (fun W => rnumber_any n W (by omega))
      have dl := dec_len n
      clear SE IT PV h1 h2 hn pb
      obtain ⟨W, hW, ⟨e0, e1, e2⟩, hbW, sz⟩ := boxD1 w b s x
      have KS : Hid (∀ A Z : World, ((A.cell? ⟨w.heap.size, 0, none⟩ = some (.bool b) ∧ A.cell? ⟨w.heap.size, 1, none⟩ = some (.string s) ∧ A.cell? ⟨w.heap.size, 2, none⟩ = some (.int .i64 x)) ∧ ((w.heap.size < A.heap.size) ∧ Below w.heap.size w A)) → Below A.heap.size A Z → ((Z.cell? ⟨w.heap.size, 0, none⟩ = some (.bool b) ∧ Z.cell? ⟨w.heap.size, 1, none⟩ = some (.string s) ∧ Z.cell? ⟨w.heap.size, 2, none⟩ = some (.int .i64 x)) ∧ ((w.heap.size < Z.heap.size) ∧ Below w.heap.size w Z))) := by
        rintro A Z ⟨⟨h0, h1, h2⟩, l0, hb⟩ hx
        have hz := hx.size
        refine ⟨⟨(hx.cell (p := ⟨w.heap.size, 0, none⟩) l0).trans h0, (hx.cell (p := ⟨w.heap.size, 1, none⟩) l0).trans h1, (hx.cell (p := ⟨w.heap.size, 2, none⟩) l0).trans h2⟩, by omega, via hb hx⟩
      have ST : Hid ((W.cell? ⟨w.heap.size, 0, none⟩ = some (.bool b) ∧ W.cell? ⟨w.heap.size, 1, none⟩ = some (.string s) ∧ W.cell? ⟨w.heap.size, 2, none⟩ = some (.int .i64 x)) ∧ ((w.heap.size < W.heap.size) ∧ Below w.heap.size w W)) := ⟨⟨e0, e1, e2⟩, by omega, hbW⟩
      clear hbW sz e0 e1 e2
      obtain ⟨⟨z0, z1, z2⟩, zl, zB⟩ := ST.out
      clear zl zB
      go_enter Tryd.func25, Tryd.ntmps25
      go_wp2_with fail
      refine (RA.out _).mono ?_
      rintro e w1x ⟨rfl, hb⟩
      have ST1 := Lib.hid (KS.out _ _ ST.out hb)
      clear hb
      clear z0 z1 z2
      obtain ⟨⟨z0, z1, z2⟩, zl, zB⟩ := ST1.out
      clear zl zB
      go_upto_if 14 with fail
      go_cut [4] (fun sv wx => ∃ G : ByteArray, sv = .string G ∧ Hid (G.data.toList = sgT b) ∧ G.size ≤ 1 ∧ w1x = wx)
      case first =>
        cases b with
        | true =>
          go_wp2
          go_meet
          exact ⟨⟨#[45]⟩, rfl, rfl, by decide, rfl⟩
        | false =>
          go_wp2
          go_meet
          exact ⟨⟨#[]⟩, rfl, rfl, by decide, rfl⟩
      case rest =>
      obtain ⟨G, rfl, HG, zG, rfl⟩ := hcut
      go_wp2_with fail
      refine (PT.out _).mono ?_
      rintro e w2x ⟨rfl, hb⟩
      have ST2 := Lib.hid (KS.out _ _ ST1.out hb)
      clear hb
      clear z0 z1 z2
      obtain ⟨⟨z0, z1, z2⟩, zl, zB⟩ := ST2.out
      clear zl zB
      obtain ⟨D1, hD1, lD1⟩ := app_of G H _ _ HG.out HL.out.1
      have zD1 : D1.size = G.size + H.size := by rw [bytes_size, lD1, List.length_append, ← HG.out, ← HL.out.1, ← bytes_size, ← bytes_size]
      have ov1 : ¬ 9223372036854775807 < G.size + H.size := by omega
      obtain ⟨D4, hD4, lD4⟩ := app_of D1 ⟨#[101, 45]⟩ _ [101, 45] lD1 rfl
      have zD4 : D4.size = D1.size + 2 := by rw [bytes_size, lD4, List.length_append, ← lD1, ← bytes_size]; rfl
      have ov4 : ¬ 9223372036854775807 < D1.size + 2 := by omega
      have LD := Lib.hid lD4
      clear lD1 lD4
      go_wp2_with fail
      refine (NM.out _).mono ?_
      rintro e w9x ⟨⟨Q, rfl, hQ⟩, rfl⟩
      have zQ : Q.size ≤ 200001 := by rw [bytes_size, hQ]; omega
      obtain ⟨F, hF, lF⟩ := app_of D4 Q _ _ LD.out hQ
      have LF := Lib.hid lF
      have ov5 : ¬ 9223372036854775807 < D4.size + Q.size := by omega
      clear hQ lF
      go_wp2
      go_ret
      exact ⟨F, rfl, by rw [LF.out, E.out]; simp [List.append_assoc], ST2.out.2.2⟩
    · obtain ⟨n, hn⟩ : ∃ n : Nat, p - 1 = (n : Int) := ⟨(p - 1).toNat, by omega⟩
      have IT : Hid (Lib.itoa (p - 1) = Lib.decDigits n) := by unfold Hid Lib.itoa; rw [if_neg (by omega), show (p - 1).toNat = n by omega]
      have g1 : 1 ≤ p := by omega
      have g2 : ¬ p ≤ 21 := by omega
      have g3 : ¬ (n : Int) < 0 := by omega
      have g4 : -5 ≤ p := by omega
      have g5 : ¬ p ≤ 0 := by omega
      have d1 : decide (p ≤ 21) = false := decide_eq_false g2
      have d2 : decide (p ≤ 0) = false := decide_eq_false g5
      have nb : n ≤ 200000 := by omega
      have E : Hid (v = sgT b ++ (l.take 1 ++ ([]) ++ [101, 43] ++ (Lib.decDigits n))) := by unfold Hid; rw [PV.out, SE.out, if_neg (show ¬ 1 < s.size by omega), if_neg (show ¬ p - 1 < 0 by omega), IT.out]
      replace pw := pw.trans hn
      have NM := Lib.hid (fun W => rnumber_any n W (by omega))
      have dl := dec_len n
      clear SE IT PV h1 h2 hn pb
      obtain ⟨W, hW, ⟨e0, e1, e2⟩, hbW, sz⟩ := boxD1 w b s x
      have KS : Hid (∀ A Z : World, ((A.cell? ⟨w.heap.size, 0, none⟩ = some (.bool b) ∧ A.cell? ⟨w.heap.size, 1, none⟩ = some (.string s) ∧ A.cell? ⟨w.heap.size, 2, none⟩ = some (.int .i64 x)) ∧ ((w.heap.size < A.heap.size) ∧ Below w.heap.size w A)) → Below A.heap.size A Z → ((Z.cell? ⟨w.heap.size, 0, none⟩ = some (.bool b) ∧ Z.cell? ⟨w.heap.size, 1, none⟩ = some (.string s) ∧ Z.cell? ⟨w.heap.size, 2, none⟩ = some (.int .i64 x)) ∧ ((w.heap.size < Z.heap.size) ∧ Below w.heap.size w Z))) := by
        rintro A Z ⟨⟨h0, h1, h2⟩, l0, hb⟩ hx
        have hz := hx.size
        refine ⟨⟨(hx.cell (p := ⟨w.heap.size, 0, none⟩) l0).trans h0, (hx.cell (p := ⟨w.heap.size, 1, none⟩) l0).trans h1, (hx.cell (p := ⟨w.heap.size, 2, none⟩) l0).trans h2⟩, by omega, via hb hx⟩
      have ST : Hid ((W.cell? ⟨w.heap.size, 0, none⟩ = some (.bool b) ∧ W.cell? ⟨w.heap.size, 1, none⟩ = some (.string s) ∧ W.cell? ⟨w.heap.size, 2, none⟩ = some (.int .i64 x)) ∧ ((w.heap.size < W.heap.size) ∧ Below w.heap.size w W)) := ⟨⟨e0, e1, e2⟩, by omega, hbW⟩
      clear hbW sz e0 e1 e2
      obtain ⟨⟨z0, z1, z2⟩, zl, zB⟩ := ST.out
      clear zl zB
      go_enter Tryd.func25, Tryd.ntmps25
      go_wp2_with fail
      refine (RA.out _).mono ?_
      rintro e w1x ⟨rfl, hb⟩
      have ST1 := Lib.hid (KS.out _ _ ST.out hb)
      clear hb
      clear z0 z1 z2
      obtain ⟨⟨z0, z1, z2⟩, zl, zB⟩ := ST1.out
      clear zl zB
      go_upto_if 14 with fail
      go_cut [4] (fun sv wx => ∃ G : ByteArray, sv = .string G ∧ Hid (G.data.toList = sgT b) ∧ G.size ≤ 1 ∧ w1x = wx)
      case first =>
        cases b with
        | true =>
          go_wp2
          go_meet
          exact ⟨⟨#[45]⟩, rfl, rfl, by decide, rfl⟩
        | false =>
          go_wp2
          go_meet
          exact ⟨⟨#[]⟩, rfl, rfl, by decide, rfl⟩
      case rest =>
      obtain ⟨G, rfl, HG, zG, rfl⟩ := hcut
      go_wp2_with fail
      refine (PT.out _).mono ?_
      rintro e w2x ⟨rfl, hb⟩
      have ST2 := Lib.hid (KS.out _ _ ST1.out hb)
      clear hb
      clear z0 z1 z2
      obtain ⟨⟨z0, z1, z2⟩, zl, zB⟩ := ST2.out
      clear zl zB
      obtain ⟨D1, hD1, lD1⟩ := app_of G H _ _ HG.out HL.out.1
      have zD1 : D1.size = G.size + H.size := by rw [bytes_size, lD1, List.length_append, ← HG.out, ← HL.out.1, ← bytes_size, ← bytes_size]
      have ov1 : ¬ 9223372036854775807 < G.size + H.size := by omega
      obtain ⟨D4, hD4, lD4⟩ := app_of D1 ⟨#[101, 43]⟩ _ [101, 43] lD1 rfl
      have zD4 : D4.size = D1.size + 2 := by rw [bytes_size, lD4, List.length_append, ← lD1, ← bytes_size]; rfl
      have ov4 : ¬ 9223372036854775807 < D1.size + 2 := by omega
      have LD := Lib.hid lD4
      clear lD1 lD4
      go_wp2_with fail
      refine (NM.out _).mono ?_
      rintro e w9x ⟨⟨Q, rfl, hQ⟩, rfl⟩
      have zQ : Q.size ≤ 200001 := by rw [bytes_size, hQ]; omega
      obtain ⟨F, hF, lF⟩ := app_of D4 Q _ _ LD.out hQ
      have LF := Lib.hid lF
      have ov5 : ¬ 9223372036854775807 < D4.size + Q.size := by omega
      clear hQ lF
      go_wp2
      go_ret
      exact ⟨F, rfl, by rw [LF.out, E.out]; simp [List.append_assoc], ST2.out.2.2⟩
theorem rprint_any (b : Bool) (s : ByteArray) (x : Int) (w : World) (hs : s.size ≤ 1000000) :
    Calls Tryd.prog 25 #[.agg #[.bool b, .string s, .int .i64 x]] w (StrPost (printT b s.data.toList x) w) := by
  by_cases hr : rightV s.data.toList x = true
  · by_cases h0 : s.data.toList = []
    · exact rprint_zero b s x w hr h0
    · by_cases h1 : 1 ≤ (s.size : Int) + x ∧ (s.size : Int) + x ≤ 21
      · exact rprint_digs b s x w hr h0 h1.1 h1.2
      · by_cases h2 : -5 ≤ (s.size : Int) + x ∧ (s.size : Int) + x ≤ 0
        · exact rprint_small b s x w hr h0 h2.1 h2.2
        · exact rprint_exp b s x w hr h0 h1 h2
  · exact rprint_not b s x w hs (Bool.eq_false_iff.2 hr)
end Go.Proofs.YtgjhpcmpgkfnkaaDoor
