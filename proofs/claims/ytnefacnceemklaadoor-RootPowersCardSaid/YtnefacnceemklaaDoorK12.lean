/-
  The document's root, bit by bit: walked.
-/
import Derived.Test.YtnefacnceemklaaDoorX8
import Derived.Test.YtnefacnceemklaaDoorX7
import Derived.Test.YtnefacnceemklaaDoorX5
namespace Go.Proofs.YtnefacnceemklaaDoor
open Go.RowKit Go.Shelf

/-- The root so far, k bits from its end. -/
structure RtAt (V : Int) (k : Nat) (lr : List Int) : Prop where
  lim : ∀ x ∈ lr, Limb x
  nrm : Norm lr
  d : natV lr % pw (k : Int) = 0
  lo : natV lr * natV lr ≤ V
  hi : V < (natV lr + pw (k : Int)) * (natV lr + pw (k : Int))
theorem rt_start {V : Int} (h0 : 0 ≤ V) (h1 : V < pw 190) : RtAt V 100 [] := by
  refine ⟨by simp, norm_nil, by simp [natV], by simpa [natV] using h0, ?_⟩
  have e : (natV [] + pw ((100 : Nat) : Int)) * (natV [] + pw ((100 : Nat) : Int)) = pw 200 := by
    rw [show natV [] = 0 from rfl, Int.zero_add, ← pw_add _ _ (by decide) (by decide)]; rfl
  rw [e]
  have := pw_mono (a := 190) (b := 200) (by decide) (by decide)
  omega
theorem rt_long {V : Int} {j : Nat} {lr : List Int} (h : RtAt V (j + 1) lr) (hne : lr ≠ []) : j / 32 < lr.length := by
  have p := natV_pos h.lim h.nrm hne
  have l := natV_lt h.lim
  have d := h.d
  have ge : pw ((j + 1 : Nat) : Int) ≤ natV lr := by
    rcases Int.lt_or_le (natV lr) (pw ((j + 1 : Nat) : Int)) with c | c
    · rw [Int.emod_eq_of_lt (by omega) c] at d; omega
    · exact c
  have := pw_inj_le (a := ((j + 1 : Nat) : Int)) (b := 32 * (lr.length : Int)) (by omega) (by omega)
  omega
theorem rt_end {V : Int} {lr : List Int} (h : RtAt V 0 lr) : IsRoot (natV lr) V := ⟨natV_nonneg h.lim, h.lo, by have := h.hi; rw [show pw ((0 : Nat) : Int) = 1 from rfl] at this; exact this⟩
theorem norm_set {t : List Int} {q : Nat} {x : Int} (_hq : q < t.length) (hx : x ≠ 0) (h : t.length = q + 1 ∨ Norm t) : Norm (t.set q x) := by
  intro i hi e
  rw [List.length_set] at hi e
  by_cases c : q = i
  · subst c; simpa using hx
  · rw [List.getElem_set_ne c]
    rcases h with h | h
    · omega
    · exact h i hi e
/-- The next bit set, or not. -/
theorem rt_next {V : Int} {j : Nat} {lr t : List Int} (h : RtAt V (j + 1) lr) (tl : ∀ x ∈ t, Limb x) (tv : natV t = natV lr) (hq : j / 32 < t.length) (hn : t.length = j / 32 + 1 ∨ Norm t) :
    ∃ x : Int, bits .or .u32 (digV t (j / 32)) (pw ((j : Int) % 32)) = x ∧ Limb x ∧ natV (t.set (j / 32) x) = natV lr + pw (j : Int) ∧
      ((natV lr + pw (j : Int)) * (natV lr + pw (j : Int)) ≤ V → RtAt V j (t.set (j / 32) x)) ∧ (¬ (natV lr + pw (j : Int)) * (natV lr + pw (j : Int)) ≤ V → RtAt V j lr) := by
  have pj := pw_pos (j : Int)
  have e1 : pw ((j + 1 : Nat) : Int) = 2 * pw (j : Int) := by rw [show ((j + 1 : Nat) : Int) = (j : Int) + 1 by omega]; exact pw_succ _ (by omega)
  have d := h.d
  have hi := h.hi
  rw [e1] at d hi
  obtain ⟨u, hu⟩ := Int.dvd_of_emod_eq_zero d
  have hb : natV t / pw (j : Int) % 2 = 0 := by
    rw [tv, hu, Int.mul_assoc, Int.mul_left_comm, Int.mul_ediv_cancel_left _ (by omega)]; omega
  have eq : ((j : Int) / 32).toNat = j / 32 := by omega
  obtain ⟨s1, s2, s3⟩ := natV_setbit tl (i := (j : Int)) (by omega) (by rw [eq]; exact hq) hb
  rw [eq] at s1 s2 s3
  have pr := pw_pos ((j : Int) % 32)
  have x0 := (digV_limb tl (j / 32)).1
  refine ⟨_, s1, s2, by rw [s3, tv], fun c => ?_, fun c => ?_⟩
  · refine ⟨limbs_set tl _ s2, norm_set hq (by omega) hn, ?_, by rw [s3, tv]; exact c, ?_⟩
    · rw [s3, tv, hu, Int.mul_assoc, Int.mul_left_comm, Int.add_emod, Int.mul_emod_right, Int.emod_self]; rfl
    · rw [s3, tv, Int.add_assoc, show pw (j : Int) + pw (j : Int) = 2 * pw (j : Int) by omega]; exact hi
  · exact ⟨h.lim, h.nrm, by rw [hu, Int.mul_assoc, Int.mul_left_comm]; exact Int.mul_emod_right _ _, h.lo, by omega⟩
def sliceLen : Value → Nat
  | .slice _ n _ => n
  | _ => 0
theorem own_len {w : World} {base e n : Nat} {v : Value} {xs : List Value} (h : w.ownsRow base e 1 v n xs) : sliceLen v = n := by
  rcases h.2 with ⟨rfl, rfl⟩ | ⟨g, cap, cur, rfl, _⟩ <;> rfl
theorem rep_snoc (lr : List Int) (z : Nat) : lr ++ List.replicate z 0 ++ [0] = lr ++ List.replicate (z + 1) 0 := by rw [List.append_assoc, ← List.replicate_succ']
set_option maxRecDepth 100000 in
set_option maxHeartbeats 4000000 in
theorem rroot_any (A : Option Addr) (n c : Nat) (l : List Int) (w : World) (h : Sl w w.heap.size A n c l) (hn : n ≤ 100) (hv : natV l < pw 190) :
    Calls Tryd.prog 49 #[.slice A n c, .int .i64 100] w fun e w' => ∃ A' n' c' l', e = .returned (.slice A' n' c') ∧ Sl w' w'.heap.size A' n' c' l' ∧ Norm l' ∧ n' ≤ 4 ∧ IsRoot (natV l') (natV l) ∧ Below w.heap.size w w' := by
  have H := Lib.hid h
  have st0 := Lib.hid (rt_start (natV_nonneg h.lim) hv)
  have s0 : Hid (Sl (w.alloc (.cells #[] 84)) (w.alloc (.cells #[] 84)).heap.size (some ⟨w.heap.size, 0, none⟩) 0 0 []) := ⟨rfl, Nat.le_refl _, by simp [maxLen], by simp, (fun e => by cases e), .inl rfl⟩
  clear h hv
  go_enter Tryd.func49, Tryd.ntmps49
  go_wp2
  have B0 : Below w.heap.size w (w.alloc (.cells #[] 84)) := below_new _ _
  generalize w.alloc (.cells #[] 84) = W0 at *
  go_loopw [5, 6] (fun v ii wx => ∃ (k : Nat) (R : Option Addr) (nR cR : Nat) (lr : List Int), ii = .int .i64 ((k : Int) - 1) ∧ v = .slice R nR cR ∧ k ≤ 100 ∧ nR ≤ 4 ∧ Sl wx wx.heap.size R nR cR lr ∧ Below w.heap.size w wx ∧ RtAt (natV l) k lr) (fun _ ii _ => (intOf ii + 1).toNat)
  case atStart => exact ⟨100, some ⟨w.heap.size, 0, none⟩, 0, 0, [], rfl, rfl, by decide, by decide, s0.out, B0, st0.out⟩
  case round =>
    obtain ⟨k, R, nR, cR, lr, rfl, rfl, hk, hnR, hR, hB, hP⟩ := hrel
    rename World => W
    clear s0 st0 B0
    cases k with
    | zero =>
      have fin := Lib.hid (rt_end hP)
      have nrm := Lib.hid hP.nrm
      clear hP
      go_wp2
      go_ret
      exact ⟨_, _, _, lr, rfl, hR, nrm.out, hnR, fin.out, hB⟩
    | succ j =>
      have ej : ((j + 1 : Nat) : Int) - 1 = (j : Int) := by omega
      have j0 : (0 : Int) ≤ (j : Int) := by omega
      have jb : (j : Int) ≤ 99 := by omega
      have hR := Lib.hid hR
      obtain ⟨q, hq⟩ : ∃ q : Nat, (j : Int) / 32 = (q : Int) := ⟨j / 32, by omega⟩
      have qe : j / 32 = q := by omega
      have q3 : q ≤ 3 := by omega
      have hP := Lib.hid hP
      go_upto_block 2 with (first | (at_builtin; go_loud (refine wpList_appSl rfl _ _ rfl W.heap.size _ 0 [] (empty_own W) rfl W.heap.size R nR cR lr (hR.out.below (below_new _ _)) rfl (by omega) (by simp) ?_); intro v1 w1 hown1 hb1))
      have hb2 : Below W.heap.size W w1 := (below_new W _).trans hb1
      have hown2 : w1.ownsRow W.heap.size 84 1 v1 (nR + 0) ((lr ++ List.replicate 0 0).map (Value.int .u32)) := by simpa using hown1
      have hz1 : W.heap.size ≤ w1.heap.size := hb2.size
      clear hown1 hb1
      go_cut [7] (fun v wx => ∃ (z : Nat), q < nR + z ∧ (z = 0 ∨ nR + z ≤ q + 1) ∧ wx.ownsRow W.heap.size 84 1 v (nR + z) ((lr ++ List.replicate z 0).map (Value.int .u32)) ∧ Below W.heap.size W wx)
      case first =>
        go_wp2_with fail
        go_loopw [7] (fun v wx => ∃ (z : Nat), (z = 0 ∨ nR + z ≤ q + 1) ∧ wx.ownsRow W.heap.size 84 1 v (nR + z) ((lr ++ List.replicate z 0).map (Value.int .u32)) ∧ Below W.heap.size W wx) (fun v _ => q + 2 - sliceLen v)
        case atStart => exact ⟨0, .inl rfl, hown2, hb2⟩
        case round =>
          obtain ⟨z, hz, hown, hB2⟩ := hrel
          clear hown2 hb2
          have lim : ∀ x ∈ lr ++ List.replicate z (0 : Int), Limb x := fun x hx => by
            rcases List.mem_append.1 hx with h | h
            · exact hP.out.lim x h
            · exact limbs_rep z x h
          obtain ⟨A2, c2, rfl, hs2, _⟩ := Sl.of_own hown lim
          have sz := hB2.size
          have HO := Lib.hid hown
          have zb : nR + z ≤ 5 := by omega
          clear hown hs2 lim
          by_cases g : q < nR + z
          · have g2 : ¬ ((nR + z : Nat) : Int) ≤ (q : Int) := by omega
            go_wp2
            go_meet
            exact ⟨z, g, hz, HO.out, hB2⟩
          · have g2 : ((nR + z : Nat) : Int) ≤ (q : Int) := by omega
            have HB := Lib.hid hB2
            go_wp2_with (at_builtin; go_loud (refine wpList_app1 rfl _ _ rfl W.heap.size _ (nR + z) (lr ++ List.replicate z 0) 0 HO.out rfl rfl (by omega) sz ?_); intro v3 w3 hown3 hb3)
            rw [rep_snoc] at hown3
            have ol := own_len hown3
            refine ⟨⟨z + 1, .inr (by omega), by simpa [Nat.add_assoc] using hown3, HB.out.trans hb3⟩, ?_⟩
            rw [ol]
            show q + 2 - (nR + z + 1) < q + 2 - (nR + z)
            omega
      case rest =>
        obtain ⟨z, hqz, hz, hown, hB2⟩ := hcut
        rename World => X
        clear hown2 hb2
        have lim : ∀ x ∈ lr ++ List.replicate z (0 : Int), Limb x := fun x hx => by
          rcases List.mem_append.1 hx with h | h
          · exact hP.out.lim x h
          · exact limbs_rep z x h
        have tv : natV (lr ++ List.replicate z 0) = natV lr := by rw [natV_append, natV_rep, Int.mul_zero, Int.add_zero]
        have llr := hR.out.len
        have tlen : (lr ++ List.replicate z (0 : Int)).length = nR + z := by simp [llr]
        have tn : (lr ++ List.replicate z (0 : Int)).length = q + 1 ∨ Norm (lr ++ List.replicate z (0 : Int)) := by
          rcases hz with rfl | hz
          · exact .inr (by simpa using hP.out.nrm)
          · exact .inl (by rw [tlen]; omega)
        obtain ⟨x, hx, lx, vx, nx1, nx2⟩ := rt_next hP.out lim tv (by rw [qe, tlen]; exact hqz) (by rw [qe]; exact tn)
        rw [qe] at hx vx nx1
        have NX1 := Lib.hid nx1; have NX2 := Lib.hid nx2
        have slim := limbs_set lim q lx
        have slen : ((lr ++ List.replicate z (0 : Int)).set q x).length = nR + z := by rw [List.length_set, tlen]
        generalize lr ++ List.replicate z (0 : Int) = t at *
        rcases hown.2 with ⟨_, e⟩ | ⟨g, cap, cur, rfl, gb, _⟩
        · omega
        have cell : X.cell? ⟨g, q, none⟩ = some (.int .u32 (digV t q)) := by
          rw [hown.cellAt q (by omega), digV_lt (by omega)]; simp [show q < t.length by omega]
        have fr : X.frozen? ⟨g, q, none⟩ = false := hown.frozenAt q
        have hst : (X.setCell ⟨g, q, none⟩ (.int .u32 x)).ownsRow W.heap.size 84 1 (.slice (some ⟨g, 0, none⟩) (nR + z) cap) (nR + z) ((t.set q x).map (Value.int .u32)) := by
          have := (hown.stored q (.int .u32 x)).1
          rw [List.map_set]; exact this
        have hss : Sl (X.setCell ⟨g, q, none⟩ (.int .u32 x)) (X.setCell ⟨g, q, none⟩ (.int .u32 x)).heap.size (some ⟨g, 0, none⟩) (nR + z) cap (t.set q x) := by
          obtain ⟨A', c', e, hs, _⟩ := Sl.of_own hst slim
          cases e
          exact hs
        have bX : Below W.heap.size W (X.setCell ⟨g, q, none⟩ (.int .u32 x)) := hB2.setCell gb _
        have bw : Below w.heap.size w (X.setCell ⟨g, q, none⟩ (.int .u32 x)) := hB.trans (bX.mono hB.size)
        have HSS := Lib.hid hss
        have BX := Lib.hid bX; have BW := Lib.hid bw
        have CT := Lib.hid (rtimes_any _ _ _ _ _ _ _ _ _ hss hss (by omega) (by omega))
        rw [vx] at CT
        obtain ⟨d, hd⟩ : ∃ d, digV t q = d := ⟨_, rfl⟩
        rw [hd] at cell hx
        obtain ⟨d0, d1⟩ := digV_limb lim q
        rw [hd] at d0 d1
        obtain ⟨s, hs⟩ : ∃ s, (j : Int) % 32 = s := ⟨_, rfl⟩
        rw [hs] at hx
        have s0 : 0 ≤ s := by omega
        have s1 : s ≤ 31 := by omega
        obtain ⟨P, hP2⟩ : ∃ P, pw s = P := ⟨_, rfl⟩
        have P1 : 1 * 2 ^ s.toNat = P := by rw [Int.one_mul, pw_eq]; exact hP2
        have P1' : 2 ^ s.toNat = P := by rw [pw_eq]; exact hP2
        have Pb : 0 < P ∧ P ≤ 2147483648 := by
          have := pw_mono s0 s1
          rw [show pw 31 = 2147483648 from rfl, hP2] at this
          have := pw_pos s; rw [hP2] at this; omega
        obtain ⟨Pb0, Pb1⟩ := Pb
        have wP : IntKind.u32.wrap P = P := by rw [IntKind.wrap_u32]; omega
        have ws : IntKind.u64.wrap s = s := by rw [IntKind.wrap_u64]; omega
        rw [hP2] at hx
        have ql : (q : Int) < ((nR + z : Nat) : Int) := by omega
        have q0 : (0 : Int) ≤ (q : Int) := by omega
        have zb : nR + z ≤ 5 := by omega
        clear lim tv tlen tn hd hown nx1 nx2 hst hss bX bw hB hB2
        go_wp2_with fail
        refine CT.out.mono ?_
        rintro e w3 ⟨A3, n3, c3, l3, rfl, hs3, hn3, hv3, fr3, hb3⟩
        have n3b : n3 ≤ 200 := by
          rw [← hs3.len]
          refine norm_len hs3.lim hn3 ?_
          rw [hv3, ← vx]
          have a1 := natV_lt slim
          rw [slen] at a1
          have a2 := natV_nonneg slim
          have a3 := Int.mul_le_mul (Int.le_of_lt a1) (Int.le_of_lt a1) a2 (Int.le_of_lt (pw_pos _))
          rw [← pw_add _ _ (by omega) (by omega)] at a3
          have a4 := pw_mono (a := 32 * ((nR + z : Nat) : Int) + 32 * ((nR + z : Nat) : Int)) (b := 1000) (by omega) (by omega)
          have a5 := pw_half 1001 (by decide)
          have a6 := pw_mono (a := 1001) (b := 32 * ((200 : Nat) : Int)) (by decide) (by decide)
          rw [show (1001 : Int) - 1 = 1000 by decide] at a5
          have := pw_pos 1000
          omega
        have BW3 := Lib.hid (BW.out.trans (hb3.mono BW.out.size))
        have CC := Lib.hid (rcmp_any A3 A n3 n c3 c l3 l w3 hs3 (H.out.on BW3.out) (by omega) (by omega))
        rw [hv3] at CC
        have HT := Lib.hid (HSS.out.on hb3)
        have HRn := Lib.hid ((hR.out.on BX.out).on hb3)
        clear hs3 hn3 hv3 fr3 hb3 CT HSS BX BW slim lx slen
        go_wp2_with fail
        refine CC.out.mono ?_
        rintro e w4 ⟨rfl, hb4⟩
        have BW4 := Lib.hid (BW3.out.trans (hb4.mono BW3.out.size))
        have HT := Lib.hid (HT.out.on hb4)
        have HRn := Lib.hid (HRn.out.on hb4)
        have le := cmpI_le ((natV lr + pw (j : Int)) * (natV lr + pw (j : Int))) (natV l)
        generalize cmpI ((natV lr + pw (j : Int)) * (natV lr + pw (j : Int))) (natV l) = r at *
        clear hb4 CC BW3 vx
        by_cases c1 : r ≤ 0
        · have N := Lib.hid (NX1.out (le.1 c1))
          clear NX1 NX2 le
          go_wp2
          go_roundw
          case rel => exact ⟨j, some ⟨g, 0, none⟩, nR + z, cap, _, by go_num, rfl, by omega, by omega, HT.out, BW4.out, N.out⟩
          case measure => simp [intOf]
        · have N := Lib.hid (NX2.out (by first | exact Int.not_le.1 (mt le.2 c1) | exact mt le.2 c1))
          have c2 : ¬ r ≤ 0 := c1
          clear NX1 NX2 le
          go_wp2
          go_roundw
          case rel => exact ⟨j, R, nR, cR, lr, by go_num, rfl, by omega, hnR, HRn.out, BW4.out, N.out⟩
          case measure => simp [intOf]
end Go.Proofs.YtnefacnceemklaaDoor
