/-
  Package decimal: Make: walked.
-/
import Derived.Test.YtgjhpcmpgkfnkaaDoorA11
namespace Go.Proofs.YtgjhpcmpgkfnkaaDoor
open Go.RowKit Go.Shelf

theorem trimL_any (s : ByteArray) (w : World) : Calls Tryd.prog 28 #[.string s, .string ⟨#[48]⟩] w fun e w' => e = .returned (.string ⟨(Lib.trimLeftB s.data.toList 48).toArray⟩) ∧ w = w' :=
  (Tryd.strings_TrimLeft_one s 48 (by decide) w).mono (fun _ _ h => ⟨h.1, h.2.symm⟩)
theorem trimR_any (s : ByteArray) (w : World) (hs : s.size ≤ 1000000) : Calls Tryd.prog 29 #[.string s, .string ⟨#[48]⟩] w fun e w' => e = .returned (.string ⟨(Lib.trimRightB s.data.toList 48).toArray⟩) ∧ w = w' :=
  (Tryd.strings_TrimRight_one s 48 (by decide) w (by omega)).mono (fun _ _ h => ⟨h.1, h.2.symm⟩)
set_option maxRecDepth 100000 in
set_option maxHeartbeats 8000000 in
theorem make_any (b : Bool) (s : ByteArray) (x : Int) (w : World) (hs : s.size ≤ 1000000) (x0 : -9223372036854775808 ≤ x) (x1 : x < 9223372036854775808) :
    Calls Tryd.prog 10 #[.bool b, .string s, .int .i64 x] w (MakePost (makeV b s.data.toList x) w) := by
  have AD := Lib.hid (fun W => allDigits_any s W hs)
  have SZ := bytes_size s
  obtain ⟨t1, ht1⟩ : ∃ t : ByteArray, (⟨(Lib.trimLeftB s.data.toList 48).toArray⟩ : ByteArray) = t := ⟨_, rfl⟩
  obtain ⟨t2, ht2⟩ : ∃ t : ByteArray, (⟨(mkD s.data.toList).toArray⟩ : ByteArray) = t := ⟨_, rfl⟩
  have d1 : t1.data.toList = Lib.trimLeftB s.data.toList 48 := by rw [← ht1]
  have d2 : t2.data.toList = mkD s.data.toList := by rw [← ht2]
  have z1 : t1.size = (Lib.trimLeftB s.data.toList 48).length := by rw [bytes_size, d1]
  have z2 : t2.size = (mkD s.data.toList).length := by rw [bytes_size, d2]
  have l1 : t1.size ≤ s.size := by rw [z1, SZ]; exact trimL_le _
  have l2 : t2.size ≤ t1.size := by rw [z1, z2]; exact mkD_le _
  have TL := Lib.hid (fun W => trimL_any s W)
  have TR := Lib.hid (fun W => trimR_any t1 W (by omega))
  rw [d1, show Lib.trimRightB (Lib.trimLeftB s.data.toList 48) 48 = mkD s.data.toList from rfl, ht2] at TR
  rw [ht1] at TL
  have E : Hid (makeV b s.data.toList x = if s.data.toList.all dgB = true then (if mkD s.data.toList = [] then (decV b [] 0, 0) else if t2.size ≤ 1100 ∧ x ≤ 100000 ∧ -100000 ≤ x + ((t1.size : Int) - t2.size) ∧ x + ((t1.size : Int) - t2.size) ≤ 100000 then (.agg #[.bool b, .string t2, .int .i64 (x + ((t1.size : Int) - t2.size))], 0) else (decV false [] 0, 2)) else (decV false [] 0, 3)) := by
    unfold Hid makeV mkM
    rw [← z1, ← z2]; unfold decV; rw [ht2]
  have EM : Hid (t2.toList.isEmpty = decide (mkD s.data.toList = [])) := by
    unfold Hid; rw [bytes_empty, d2]
    by_cases h : mkD s.data.toList = []
    · rw [decide_eq_true h, h]; rfl
    · rw [decide_eq_false h]; exact List.isEmpty_eq_false_iff.2 h
  obtain ⟨l, hl⟩ : ∃ l, s.data.toList = l := ⟨_, rfl⟩
  rw [hl] at AD E EM ⊢
  clear hl d1 d2 z1 z2 ht1 ht2 SZ
  obtain ⟨v, hv⟩ : ∃ v, makeV b l x = v := ⟨_, rfl⟩
  rw [hv] at E ⊢
  clear hv
  have s1 : t1.size ≤ 1000000 := by omega
  have s2 : t2.size ≤ 1000000 := by omega
  have u1 : IntKind.i64.wrap (-100000 - (t1.size : Int)) = -100000 - (t1.size : Int) := by rw [IntKind.wrap_i64]; omega
  have u2 : IntKind.i64.wrap ((t1.size : Int) - (t2.size : Int)) = (t1.size : Int) - (t2.size : Int) := by rw [IntKind.wrap_i64]; omega
  obtain ⟨g, hg⟩ : ∃ g, l.all dgB = g := ⟨_, rfl⟩
  rw [hg] at AD E
  clear hg
  cases g with
  | false =>
    have A : Hid (v = (decV false [] 0, 3)) := E.out
    clear E EM
    go_enter Tryd.func10, Tryd.ntmps10
    go_wp2_with fail
    refine (AD.out _).mono ?_
    rintro e w2 ⟨rfl, rfl⟩
    go_wp2
    refine bodyPost_ret (v := .tuple #[.agg #[.bool false, .string ⟨#[]⟩, .int .i64 0], .int .i64 3]) (by simp [results, Tryd.results10, go_sem, *]) rfl ⟨by rw [A.out] <;> rfl, by (repeat' first | exact Below.refl _ _ | refine Below.alloc ?_ ?_ _ | refine Below.setCell ?_ ?_ _ | refine below_drewN ?_ _ | (simp; done) | (simp; omega))⟩
  | true =>
    replace E := Lib.hid (E.out.trans (if_pos rfl))
    by_cases h1 : mkD l = []
    · have e1 : t2.toList.isEmpty = true := by rw [EM.out]; exact decide_eq_true h1
      have EE := Lib.hid (E.out.trans (if_pos h1))
      have A : Hid (v = (decV b [] 0, 0)) := EE.out
      clear E EM EE h1
      go_enter Tryd.func10, Tryd.ntmps10
      go_wp2_with fail
      refine (AD.out _).mono ?_
      rintro e w2 ⟨rfl, rfl⟩
      go_wp2_with fail
      refine (TL.out _).mono ?_
      rintro e w2 ⟨rfl, rfl⟩
      go_wp2_with fail
      refine (TR.out _).mono ?_
      rintro e w2 ⟨rfl, rfl⟩
      go_wp2
      refine bodyPost_ret (v := .tuple #[.agg #[.bool b, .string ⟨#[]⟩, .int .i64 0], .int .i64 0]) (by simp [results, Tryd.results10, go_sem, *]) rfl ⟨by rw [A.out] <;> rfl, by (repeat' first | exact Below.refl _ _ | refine Below.alloc ?_ ?_ _ | refine Below.setCell ?_ ?_ _ | refine below_drewN ?_ _ | (simp; done) | (simp; omega))⟩
    · have e1 : t2.toList.isEmpty = false := by rw [EM.out]; exact decide_eq_false h1
      replace E := Lib.hid (E.out.trans (if_neg h1))
      clear h1
      by_cases h2 : (t2.size : Int) ≤ 1100
      · by_cases h3 : x ≤ 100000
        · by_cases h4 : -100000 - (t1.size : Int) ≤ x
          · have u3 : IntKind.i64.wrap (x + ((t1.size : Int) - (t2.size : Int))) = x + ((t1.size : Int) - (t2.size : Int)) := by rw [IntKind.wrap_i64]; omega
            obtain ⟨M, hM⟩ : ∃ M, x + ((t1.size : Int) - (t2.size : Int)) = M := ⟨_, rfl⟩
            rw [hM] at E
            replace u3 := u3.trans hM
            have h4' : ¬ x < -100000 - (t1.size : Int) := by omega
            clear hM
            by_cases h5 : M ≤ 100000
            · by_cases h6 : -100000 ≤ M
              · have A : Hid (v = (.agg #[.bool b, .string t2, .int .i64 M], 0)) := by unfold Hid; rw [E.out, if_pos ⟨by omega, h3, h6, h5⟩]
                clear E EM
                go_enter Tryd.func10, Tryd.ntmps10
                go_wp2_with fail
                refine (AD.out _).mono ?_
                rintro e w2 ⟨rfl, rfl⟩
                go_wp2_with fail
                refine (TL.out _).mono ?_
                rintro e w2 ⟨rfl, rfl⟩
                go_wp2_with fail
                refine (TR.out _).mono ?_
                rintro e w2 ⟨rfl, rfl⟩
                go_wp2
                refine bodyPost_ret (v := .tuple #[.agg #[.bool b, .string t2, .int .i64 M], .int .i64 0]) (by simp [results, Tryd.results10, go_sem, *]) rfl ⟨by rw [A.out] <;> rfl, by (repeat' first | exact Below.refl _ _ | refine Below.alloc ?_ ?_ _ | refine Below.setCell ?_ ?_ _ | refine below_drewN ?_ _ | (simp; done) | (simp; omega))⟩
              · have h6' : M < -100000 := by omega
                have A : Hid (v = (decV false [] 0, 2)) := by unfold Hid; rw [E.out, if_neg (by omega)]
                clear E EM
                go_enter Tryd.func10, Tryd.ntmps10
                go_wp2_with fail
                refine (AD.out _).mono ?_
                rintro e w2 ⟨rfl, rfl⟩
                go_wp2_with fail
                refine (TL.out _).mono ?_
                rintro e w2 ⟨rfl, rfl⟩
                go_wp2_with fail
                refine (TR.out _).mono ?_
                rintro e w2 ⟨rfl, rfl⟩
                go_wp2
                refine bodyPost_ret (v := .tuple #[.agg #[.bool false, .string ⟨#[]⟩, .int .i64 0], .int .i64 2]) (by simp [results, Tryd.results10, go_sem, *]) rfl ⟨by rw [A.out] <;> rfl, by (repeat' first | exact Below.refl _ _ | refine Below.alloc ?_ ?_ _ | refine Below.setCell ?_ ?_ _ | refine below_drewN ?_ _ | (simp; done) | (simp; omega))⟩
            · have h5' : 100000 < M := by omega
              have A : Hid (v = (decV false [] 0, 2)) := by unfold Hid; rw [E.out, if_neg (by omega)]
              clear E EM
              go_enter Tryd.func10, Tryd.ntmps10
              go_wp2_with fail
              refine (AD.out _).mono ?_
              rintro e w2 ⟨rfl, rfl⟩
              go_wp2_with fail
              refine (TL.out _).mono ?_
              rintro e w2 ⟨rfl, rfl⟩
              go_wp2_with fail
              refine (TR.out _).mono ?_
              rintro e w2 ⟨rfl, rfl⟩
              go_wp2
              refine bodyPost_ret (v := .tuple #[.agg #[.bool false, .string ⟨#[]⟩, .int .i64 0], .int .i64 2]) (by simp [results, Tryd.results10, go_sem, *]) rfl ⟨by rw [A.out] <;> rfl, by (repeat' first | exact Below.refl _ _ | refine Below.alloc ?_ ?_ _ | refine Below.setCell ?_ ?_ _ | refine below_drewN ?_ _ | (simp; done) | (simp; omega))⟩
          · have h4' : x < -100000 - (t1.size : Int) := by omega
            have A : Hid (v = (decV false [] 0, 2)) := by unfold Hid; rw [E.out, if_neg (by omega)]
            clear E EM
            go_enter Tryd.func10, Tryd.ntmps10
            go_wp2_with fail
            refine (AD.out _).mono ?_
            rintro e w2 ⟨rfl, rfl⟩
            go_wp2_with fail
            refine (TL.out _).mono ?_
            rintro e w2 ⟨rfl, rfl⟩
            go_wp2_with fail
            refine (TR.out _).mono ?_
            rintro e w2 ⟨rfl, rfl⟩
            go_wp2
            refine bodyPost_ret (v := .tuple #[.agg #[.bool false, .string ⟨#[]⟩, .int .i64 0], .int .i64 2]) (by simp [results, Tryd.results10, go_sem, *]) rfl ⟨by rw [A.out] <;> rfl, by (repeat' first | exact Below.refl _ _ | refine Below.alloc ?_ ?_ _ | refine Below.setCell ?_ ?_ _ | refine below_drewN ?_ _ | (simp; done) | (simp; omega))⟩
        · have h3' : 100000 < x := by omega
          have A : Hid (v = (decV false [] 0, 2)) := by unfold Hid; rw [E.out, if_neg (by omega)]
          clear E EM
          go_enter Tryd.func10, Tryd.ntmps10
          go_wp2_with fail
          refine (AD.out _).mono ?_
          rintro e w2 ⟨rfl, rfl⟩
          go_wp2_with fail
          refine (TL.out _).mono ?_
          rintro e w2 ⟨rfl, rfl⟩
          go_wp2_with fail
          refine (TR.out _).mono ?_
          rintro e w2 ⟨rfl, rfl⟩
          go_wp2
          refine bodyPost_ret (v := .tuple #[.agg #[.bool false, .string ⟨#[]⟩, .int .i64 0], .int .i64 2]) (by simp [results, Tryd.results10, go_sem, *]) rfl ⟨by rw [A.out] <;> rfl, by (repeat' first | exact Below.refl _ _ | refine Below.alloc ?_ ?_ _ | refine Below.setCell ?_ ?_ _ | refine below_drewN ?_ _ | (simp; done) | (simp; omega))⟩
      · have h2' : 1100 < (t2.size : Int) := by omega
        have A : Hid (v = (decV false [] 0, 2)) := by unfold Hid; rw [E.out, if_neg (by omega)]
        clear E EM
        go_enter Tryd.func10, Tryd.ntmps10
        go_wp2_with fail
        refine (AD.out _).mono ?_
        rintro e w2 ⟨rfl, rfl⟩
        go_wp2_with fail
        refine (TL.out _).mono ?_
        rintro e w2 ⟨rfl, rfl⟩
        go_wp2_with fail
        refine (TR.out _).mono ?_
        rintro e w2 ⟨rfl, rfl⟩
        go_wp2
        refine bodyPost_ret (v := .tuple #[.agg #[.bool false, .string ⟨#[]⟩, .int .i64 0], .int .i64 2]) (by simp [results, Tryd.results10, go_sem, *]) rfl ⟨by rw [A.out] <;> rfl, by (repeat' first | exact Below.refl _ _ | refine Below.alloc ?_ ?_ _ | refine Below.setCell ?_ ?_ _ | refine below_drewN ?_ _ | (simp; done) | (simp; omega))⟩
end Go.Proofs.YtgjhpcmpgkfnkaaDoor
