/-
  The document's decimals: Make: walked.
-/
import Derived.Test.YtgjhpcmpgkfnkaaDoorA12
import Derived.Deep.CutBlock
import Derived.Deep.DeepCutAuto
namespace Go.Proofs.YtgjhpcmpgkfnkaaDoor
open Go.RowKit Go.Shelf

set_option maxRecDepth 100000 in
set_option maxHeartbeats 8000000 in
theorem rmake_any (b : Bool) (s : ByteArray) (x : Int) (w : World) (hs : s.size ≤ 1000000) (x0 : -9223372036854775808 ≤ x) (x1 : x < 9223372036854775808) :
    Calls Tryd.prog 11 #[.bool b, .string s, .int .i64 x] w (MakePost (makeV b s.data.toList x) w) := by
  have AD := Lib.hid (fun z z0 z1 W => rdigit_any z W z0 z1)
  have SZ := bytes_size s
  obtain ⟨F, hF⟩ : ∃ F, run isZ s.data.toList = F := ⟨_, rfl⟩
  have DT := Lib.hid (@digs_t s.data.toList)
  have DF := Lib.hid (fun k h1 h2 => @digs_f s.data.toList k h1 h2)
  have BR := Lib.hid (fun k => B_range s.data.toList k)
  have BG := Lib.hid (fun k hk => B_get (s := s) (k := k) rfl hk)
  have RL : F ≤ s.size := by rw [← hF, SZ]; exact run_le _ _
  have RM := Lib.hid (fun (k : Nat) (h : k ≤ F) (h2 : k < s.size) (h3 : B s.data.toList k = 48) => (by rw [← hF] at h ⊢; exact run_more h (by rw [← SZ]; exact h2) (isZ_t h3) : k + 1 ≤ F))
  have RE := Lib.hid (fun (k : Nat) (h : k ≤ F) (h3 : ¬ B s.data.toList k = 48) => (by rw [← hF] at h ⊢; exact run_ends h (isZ_f h3) : k = F))
  have EX := Lib.hid (fun (T : Nat) (h0 : F ≤ T) (h3 : T ≤ s.size) (h1 : ∀ j : Nat, T ≤ j → j < s.size → B s.data.toList j = 48) (h2 : F < T → B s.data.toList (T - 1) ≠ 48) => (by
    have h := mkD_at hF.symm h0 (by rw [← SZ]; exact h3) (fun j hj hk => h1 j hj (by rw [SZ]; exact hk)) h2
    rw [← SZ] at h
    refine ⟨h.2, ?_, ?_⟩
    · rw [Lib.extract_eq, h.1]
    · rw [h.1, List.length_take, List.length_drop, ← SZ]; omega : mkM s.data.toList = (s.size : Int) - T ∧ (⟨(mkD s.data.toList).toArray⟩ : ByteArray) = s.extract F T ∧ (mkD s.data.toList).length = T - F))
  have E : Hid (makeV b s.data.toList x = if s.data.toList.all dgB = true then (if mkD s.data.toList = [] then (decV b [] 0, 0) else if (mkD s.data.toList).length ≤ 1100 ∧ x ≤ 100000 ∧ -100000 ≤ x + mkM s.data.toList ∧ x + mkM s.data.toList ≤ 100000 then (.agg #[.bool b, .string ⟨(mkD s.data.toList).toArray⟩, .int .i64 (x + mkM s.data.toList)], 0) else (decV false [] 0, 2)) else (decV false [] 0, 3)) := rfl
  obtain ⟨l, hl⟩ : ∃ l, s.data.toList = l := ⟨_, rfl⟩
  rw [hl] at SZ DT DF BR BG RM RE EX E ⊢
  clear hl hF
  obtain ⟨v, hv⟩ : ∃ v, makeV b l x = v := ⟨_, rfl⟩
  rw [hv] at E ⊢
  clear hv
  replace SZ := Lib.hid SZ
  go_enter Tryd.func11, Tryd.ntmps11
  go_upto_block 0 with fail
  go_cut [8] (fun iv wx => Hid (l.all dgB = true) ∧ w.alloc (.cells #[.bool false, .string ⟨#[]⟩, .int .i64 0] 23) = wx)
  case first =>
    go_wp2_with fail
    go_loop [8] (fun v => ∃ k : Nat, v = .int .i64 (k : Int) ∧ k ≤ s.size ∧ Hid (∀ j : Nat, j < k → 48 ≤ B l j ∧ B l j ≤ 57)) (fun v => s.size - (intOf v).toNat)
    case atStart => exact ⟨0, rfl, by omega, fun j hj => absurd hj (Nat.not_lt_zero _)⟩
    case round =>
      obtain ⟨k, rfl, hk, hd⟩ := hrel
      by_cases hlt : k < s.size
      · have klt : (k : Int) < (s.size : Int) := by omega
        have kk0 : (0 : Int) ≤ (k : Int) := by omega
        have bs := BG.out k hlt
        have br := BR.out k
        have w2 : IntKind.i64.wrap ((k : Int) + 1) = (k : Int) + 1 := by rw [IntKind.wrap_i64]; omega
        obtain ⟨z, hz⟩ : ∃ z, B l k = z := ⟨_, rfl⟩
        rw [hz] at bs br
        by_cases h2 : 48 ≤ z ∧ z ≤ 57
        · have A : Hid (∀ j : Nat, j < k + 1 → 48 ≤ B l j ∧ B l j ≤ 57) := fun j hj => by
            by_cases e : j = k
            · subst e; rw [hz]; omega
            · exact hd.out j (by omega)
          have RD := Lib.hid (fun W => AD.out z br.1 br.2 W)
          rw [decide_eq_true h2] at RD
          clear hz
          go_wp2_with fail
          refine (RD.out _).mono ?_
          rintro e w3 ⟨rfl, rfl⟩
          go_wp2
          refine ⟨⟨k + 1, by simp, by omega, A⟩, ?_⟩
          simp [intOf]; omega
        · have A0 := DF.out k (by rw [← SZ.out]; exact hlt) (by rw [hz]; exact h2)
          have A : Hid (v = (decV false [] 0, 3)) := by unfold Hid; rw [E.out, if_neg (by rw [A0]; simp)]
          have RD := Lib.hid (fun W => AD.out z br.1 br.2 W)
          rw [decide_eq_false h2] at RD
          clear hz A0
          go_wp2_with fail
          refine (RD.out _).mono ?_
          rintro e w3 ⟨rfl, rfl⟩
          go_wp2
          refine bodyPost_ret (v := .tuple #[.agg #[.bool false, .string ⟨#[]⟩, .int .i64 0], .int .i64 3]) (by simp [results, Tryd.results11, go_sem, *]) rfl ⟨by rw [A.out] <;> rfl, by (repeat' first | exact Below.refl _ _ | refine Below.alloc ?_ ?_ _ | refine Below.setCell ?_ ?_ _ | refine below_drewN ?_ _ | (simp; done) | (simp; omega))⟩
      · have klt : ¬ (k : Int) < (s.size : Int) := by omega
        have A := Lib.hid (DT.out (fun j hj => hd.out j (by have := SZ.out; omega)))
        go_wp2
        go_meet
        exact ⟨A, rfl⟩
  case rest =>
  obtain ⟨hall, rfl⟩ := hcut
  replace E := Lib.hid (E.out.trans (if_pos hall.out))
  clear hall
  have F0 : (0 : Int) ≤ (F : Int) := by omega
  have RLi : (F : Int) ≤ (s.size : Int) := by omega
  go_upto_block 2 with fail
  go_cut [10] (fun iv wx => iv = .int .i64 (F : Int) ∧ w.alloc (.cells #[.bool false, .string ⟨#[]⟩, .int .i64 0] 23) = wx)
  case first =>
    go_wp2_with fail
    go_loop [10] (fun v => ∃ k : Nat, v = .int .i64 (k : Int) ∧ k ≤ F) (fun v => s.size - (intOf v).toNat)
    case atStart => exact ⟨0, rfl, by omega⟩
    case round =>
      obtain ⟨k, rfl, hk⟩ := hrel
      have kk0 : (0 : Int) ≤ (k : Int) := by omega
      have w2 : IntKind.i64.wrap ((k : Int) + 1) = (k : Int) + 1 := by rw [IntKind.wrap_i64]; omega
      by_cases hlt : k < s.size
      · have klt : (k : Int) < (s.size : Int) := by omega
        have bs := BG.out k hlt
        obtain ⟨z, hz⟩ : ∃ z, B l k = z := ⟨_, rfl⟩
        rw [hz] at bs
        by_cases h2 : z = 48
        · have nx := RM.out k hk hlt (by rw [hz]; exact h2)
          have bz : (z == 48) = true := by rw [beq_iff_eq]; exact h2
          clear hz h2
          go_wp2
          refine ⟨⟨k + 1, by simp, nx⟩, ?_⟩
          simp [intOf]; omega
        · have ek := RE.out k hk (by rw [hz]; exact h2)
          have bz : (z == 48) = false := by rw [beq_eq_false_iff_ne]; exact h2
          clear hz h2
          subst ek
          go_wp2
          go_meet
          exact ⟨rfl, rfl⟩
      · have klt : ¬ (k : Int) < (s.size : Int) := by omega
        obtain rfl : k = F := by omega
        go_wp2
        go_meet
        exact ⟨rfl, rfl⟩
  case rest =>
  obtain ⟨rfl, rfl⟩ := hcut
  go_upto_block 4 with fail
  go_cut [11, 12] (fun tv mv wx => ∃ (T : Nat) (M : Int), tv = .int .i64 (T : Int) ∧ mv = .int .i64 M ∧ Hid (M = (s.size : Int) - T ∧ F ≤ T ∧ T ≤ s.size ∧ (∀ j : Nat, T ≤ j → j < s.size → B l j = 48) ∧ (F < T → B l (T - 1) ≠ 48)) ∧ w.alloc (.cells #[.bool false, .string ⟨#[]⟩, .int .i64 0] 23) = wx)
  case first =>
    go_wp2_with fail
    go_loop [11, 12] (fun tv mv => ∃ (T : Nat) (M : Int), tv = .int .i64 (T : Int) ∧ mv = .int .i64 M ∧ 0 ≤ M ∧ M ≤ 1000000 ∧ Hid (M = (s.size : Int) - T ∧ F ≤ T ∧ T ≤ s.size ∧ (∀ j : Nat, T ≤ j → j < s.size → B l j = 48))) (fun tv _ => (intOf tv).toNat)
    case atStart => exact ⟨s.size, 0, rfl, rfl, by omega, by omega, by omega, RL, Nat.le_refl _, fun j h1 h2 => absurd h2 (by omega)⟩
    case round =>
      obtain ⟨T, M, rfl, rfl, m0, m1, hT⟩ := hrel
      have tT := hT.out.2.1
      have tS := hT.out.2.2.1
      by_cases hlt : F < T
      · have klt : (F : Int) < (T : Int) := by omega
        obtain ⟨U, hU⟩ : ∃ U, T = U + 1 := ⟨T - 1, by omega⟩
        have w1 : IntKind.i64.wrap ((T : Int) - 1) = (U : Int) := by rw [IntKind.wrap_i64]; omega
        have w2 : IntKind.i64.wrap (M + 1) = M + 1 := by rw [IntKind.wrap_i64]; omega
        have u0 : (0 : Int) ≤ (U : Int) := by omega
        have u1 : (U : Int) < (s.size : Int) := by omega
        have uk : U < s.size := by omega
        have bs := BG.out U uk
        obtain ⟨z, hz⟩ : ∃ z, B l U = z := ⟨_, rfl⟩
        rw [hz] at bs
        have hMT := hT.out.1
        have HU := Lib.hid hU
        by_cases h2 : z = 48
        · have bz : (z == 48) = true := by rw [beq_iff_eq]; exact h2
          have N : Hid (M + 1 = (s.size : Int) - U ∧ F ≤ U ∧ U ≤ s.size ∧ (∀ j : Nat, U ≤ j → j < s.size → B l j = 48)) := by
            refine ⟨by omega, by omega, by omega, fun j h3 h4 => ?_⟩
            by_cases e : j = U
            · subst e; rw [hz]; exact h2
            · exact hT.out.2.2.2 j (by omega) h4
          have m2 : 0 ≤ M + 1 := by omega
          have m3 : M + 1 ≤ 1000000 := by omega
          have lt : U < T := by omega
          clear hz h2 hT hU hMT
          go_wp2
          refine ⟨⟨U, M + 1, rfl, rfl, m2, m3, N⟩, ?_⟩
          simp [intOf]; omega
        · have bz : (z == 48) = false := by rw [beq_eq_false_iff_ne]; exact h2
          have N : Hid (F < T → B l (T - 1) ≠ 48) := fun _ => by rw [hU, Nat.add_sub_cancel, hz]; exact h2
          clear hz h2 hU hMT
          go_wp2
          go_meet
          exact ⟨T, M, rfl, rfl, ⟨hT.out.1, hT.out.2.1, hT.out.2.2.1, hT.out.2.2.2, N.out⟩, rfl⟩
      · have klt : ¬ (F : Int) < (T : Int) := by omega
        go_wp2
        go_meet
        exact ⟨T, M, rfl, rfl, ⟨hT.out.1, hT.out.2.1, hT.out.2.2.1, hT.out.2.2.2, fun h => absurd h hlt⟩, rfl⟩
  case rest =>
  obtain ⟨T, M, rfl, rfl, hT, rfl⟩ := hcut
  obtain ⟨hM, tF, tS, hj, hn⟩ := hT.out
  obtain ⟨e1, e2, e3⟩ := EX.out T tF tS hj hn
  rw [e1, e2, e3, ← hM] at E
  have m0 : 0 ≤ M := by omega
  have m1 : M ≤ 1000000 := by omega
  have T0 : (0 : Int) ≤ (T : Int) := by omega
  have TS : (T : Int) ≤ (s.size : Int) := by omega
  have FT : (F : Int) ≤ (T : Int) := by omega
  have hmk : mkD l = [] ↔ F = T := by
    constructor
    · intro h; rw [h] at e3; simp at e3; omega
    · intro h; exact List.eq_nil_of_length_eq_zero (by omega)
  clear hT hM hj hn e1 e2 e3
  have v1 : IntKind.i64.wrap ((T : Int) - (F : Int)) = (T : Int) - (F : Int) := by rw [IntKind.wrap_i64]; omega
  have v2 : IntKind.i64.wrap (-100000 - M) = -100000 - M := by rw [IntKind.wrap_i64]; omega
  by_cases h0 : F = T
  · have A : Hid (v = (decV b [] 0, 0)) := by unfold Hid; rw [E.out, if_pos (hmk.2 h0)]
    have b0 : ((F : Int) == (T : Int)) = true := by rw [beq_iff_eq]; omega
    clear E hmk h0
    go_wp2
    refine bodyPost_ret (v := .tuple #[.agg #[.bool b, .string ⟨#[]⟩, .int .i64 0], .int .i64 0]) (by simp [results, Tryd.results11, go_sem, *]) rfl ⟨by rw [A.out] <;> rfl, by (repeat' first | exact Below.refl _ _ | refine Below.alloc ?_ ?_ _ | refine Below.setCell ?_ ?_ _ | refine below_drewN ?_ _ | (simp; done) | (simp; omega))⟩
  · have b0 : ((F : Int) == (T : Int)) = false := by rw [beq_eq_false_iff_ne]; omega
    replace E := Lib.hid (E.out.trans (if_neg (fun e => h0 (hmk.1 e))))
    clear hmk
    by_cases h2 : (T : Int) - (F : Int) ≤ 1100
    · have h2q : ¬ 1100 < (T : Int) - (F : Int) := by omega
      by_cases h3 : x ≤ 100000
      · have h3q : ¬ 100000 < x := by omega
        by_cases h4 : -100000 - M ≤ x
        · have v3 : IntKind.i64.wrap (x + M) = x + M := by rw [IntKind.wrap_i64]; omega
          have h4' : ¬ x < -100000 - M := by omega
          by_cases h5 : x + M ≤ 100000
          · have h5' : ¬ 100000 < x + M := by omega
            have A : Hid (v = (.agg #[.bool b, .string (s.extract F T), .int .i64 (x + M)], 0)) := by unfold Hid; rw [E.out, if_pos ⟨by omega, h3, by omega, h5⟩]
            clear E
            go_wp2
            refine bodyPost_ret (v := .tuple #[.agg #[.bool b, .string (s.extract F T), .int .i64 (x + M)], .int .i64 0]) (by simp [results, Tryd.results11, go_sem, *]) rfl ⟨by rw [A.out] <;> rfl, by (repeat' first | exact Below.refl _ _ | refine Below.alloc ?_ ?_ _ | refine Below.setCell ?_ ?_ _ | refine below_drewN ?_ _ | (simp; done) | (simp; omega))⟩
          · have h5' : 100000 < x + M := by omega
            have A : Hid (v = (decV false [] 0, 2)) := by unfold Hid; rw [E.out, if_neg (by omega)]
            clear E
            go_wp2
            refine bodyPost_ret (v := .tuple #[.agg #[.bool false, .string ⟨#[]⟩, .int .i64 0], .int .i64 2]) (by simp [results, Tryd.results11, go_sem, *]) rfl ⟨by rw [A.out] <;> rfl, by (repeat' first | exact Below.refl _ _ | refine Below.alloc ?_ ?_ _ | refine Below.setCell ?_ ?_ _ | refine below_drewN ?_ _ | (simp; done) | (simp; omega))⟩
        · have h4' : x < -100000 - M := by omega
          have A : Hid (v = (decV false [] 0, 2)) := by unfold Hid; rw [E.out, if_neg (by omega)]
          clear E
          go_wp2
          refine bodyPost_ret (v := .tuple #[.agg #[.bool false, .string ⟨#[]⟩, .int .i64 0], .int .i64 2]) (by simp [results, Tryd.results11, go_sem, *]) rfl ⟨by rw [A.out] <;> rfl, by (repeat' first | exact Below.refl _ _ | refine Below.alloc ?_ ?_ _ | refine Below.setCell ?_ ?_ _ | refine below_drewN ?_ _ | (simp; done) | (simp; omega))⟩
      · have h3' : 100000 < x := by omega
        have A : Hid (v = (decV false [] 0, 2)) := by unfold Hid; rw [E.out, if_neg (by omega)]
        clear E
        go_wp2
        refine bodyPost_ret (v := .tuple #[.agg #[.bool false, .string ⟨#[]⟩, .int .i64 0], .int .i64 2]) (by simp [results, Tryd.results11, go_sem, *]) rfl ⟨by rw [A.out] <;> rfl, by (repeat' first | exact Below.refl _ _ | refine Below.alloc ?_ ?_ _ | refine Below.setCell ?_ ?_ _ | refine below_drewN ?_ _ | (simp; done) | (simp; omega))⟩
    · have h2' : 1100 < (T : Int) - (F : Int) := by omega
      have A : Hid (v = (decV false [] 0, 2)) := by unfold Hid; rw [E.out, if_neg (by omega)]
      clear E
      go_wp2
      refine bodyPost_ret (v := .tuple #[.agg #[.bool false, .string ⟨#[]⟩, .int .i64 0], .int .i64 2]) (by simp [results, Tryd.results11, go_sem, *]) rfl ⟨by rw [A.out] <;> rfl, by (repeat' first | exact Below.refl _ _ | refine Below.alloc ?_ ?_ _ | refine Below.setCell ?_ ?_ _ | refine below_drewN ?_ _ | (simp; done) | (simp; omega))⟩
end Go.Proofs.YtgjhpcmpgkfnkaaDoor
