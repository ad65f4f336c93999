/-
  Package decimal: Print: walked.
-/
import Derived.Test.YtgjhpcmpgkfnkaaDoorA20
import Derived.Lib.ItoaNum
import Derived.Lib.AppendIntMem
namespace Go.Proofs.YtgjhpcmpgkfnkaaDoor
open Go.RowKit Go.Shelf

/-- The table that strconv.Itoa reads. -/
def Tabs (w : World) : Prop := Lib.TabIs Tryd.prog w "internal/strconv.uint64pow10" .u64 Lib.pow10Tab
theorem gPow : Tryd.prog.globalNamed "internal/strconv.uint64pow10" = some 3 := by kernel_rfl
theorem Tabs.below {w w' : World} (h : Tabs w) (hb : Below w.heap.size w w') : Tabs w' := Joins.tab_stays gPow h hb (Nat.le_refl _)
theorem dec_len : ∀ n : Nat, (Lib.decDigits n).length ≤ n + 1 := by
  intro n
  induction n using Nat.strongRecOn with
  | _ n ih =>
    by_cases h : n < 10
    · rw [Lib.decDigits_one h]; simp
    · rw [Lib.decDigits, dif_neg h, List.length_append, List.length_singleton]
      have := ih (n / 10) (by omega)
      omega
theorem itoa_len (n : Int) (h0 : -300000 ≤ n) (h1 : n ≤ 300000) : (Lib.itoa n).length ≤ 300002 := by
  unfold Lib.itoa; split
  · rw [List.length_cons]; have := dec_len n.natAbs; omega
  · have := dec_len n.toNat; omega
theorem itoa_any (n : Int) (w : World) (n0 : -300000 ≤ n) (n1 : n ≤ 300000) (T : Tabs w) : Calls Tryd.prog 66 #[.int .i64 n] w (StrPost (Lib.itoa n) w) := by
  refine (Tryd.strconv_Itoa n (by omega) (by omega) w T).mono ?_
  rintro e w' ⟨rfl, k, os, rfl⟩
  exact ⟨_, rfl, rfl, Lib.below_grow _ _ (Nat.le_refl _) _ _⟩
def expT (l : List UInt8) (x : Int) : List UInt8 := l.take 1 ++ (if 1 < l.length then 46 :: l.drop 1 else []) ++ (if x < 0 then [101] else [101, 43]) ++ Lib.itoa x
/-- How an absolute value is written. -/
def sizeT (l : List UInt8) (p : Int) : List UInt8 :=
  if l = [] then [48]
  else if 1 ≤ p ∧ p ≤ 21 then (if (l.length : Int) ≤ p then l ++ List.replicate (p.toNat - l.length) 48 else l.take p.toNat ++ [46] ++ l.drop p.toNat)
  else if -5 ≤ p ∧ p ≤ 0 then [48, 46] ++ List.replicate (-p).toNat 48 ++ l
  else expT l (p - 1)
def printT (b : Bool) (l : List UInt8) (x : Int) : List UInt8 := if rightV l x = true then (if b = true then [45] else []) ++ sizeT l (pointV l x) else []
set_option maxRecDepth 100000 in
set_option maxHeartbeats 8000000 in
theorem withExp_any (s : ByteArray) (x : Int) (w : World) (hs : s.size ≤ 1000000) (hn : s.data.toList ≠ []) (x0 : -300000 ≤ x) (x1 : x ≤ 300000) (T : Tabs w) :
    Calls Tryd.prog 54 #[.string s, .int .i64 x] w (StrPost (expT s.data.toList x) w) := by
  have SZ := bytes_size s
  have IT := Lib.hid (itoa_any x w x0 x1 T)
  have IL := Lib.hid (itoa_len x x0 x1)
  have s0 : s.size ≠ 0 := fun e => hn (List.eq_nil_of_length_eq_zero (by omega))
  have s1 : (1 : Int) ≤ (s.size : Int) := by omega
  obtain ⟨H, hH⟩ : ∃ H : ByteArray, s.extract 0 1 = H := ⟨_, rfl⟩
  obtain ⟨R, hR⟩ : ∃ H : ByteArray, s.extract 1 s.size = H := ⟨_, rfl⟩
  have lH : H.data.toList = s.data.toList.take 1 := by rw [← hH, Lib.extract_upto]
  have lR : R.data.toList = s.data.toList.drop 1 := by rw [← hR, Lib.extract_from]
  have zH : H.size ≤ 1 := by rw [bytes_size, lH, List.length_take]; omega
  have zR : R.size ≤ 1000000 := by rw [bytes_size, lR, List.length_drop]; omega
  obtain ⟨D, hD, lD⟩ := app_of ⟨#[46]⟩ R [46] _ rfl lR
  have zD : D.size ≤ 1000001 := by rw [bytes_size, lD, List.length_append, ← lR, ← bytes_size]; show 1 + _ ≤ _; omega
  obtain ⟨D2, hD2, lD2⟩ := app_of H D _ _ lH lD
  have zD2 : D2.size ≤ 1000002 := by rw [bytes_size, lD2, List.length_append, ← lH, ← lD, ← bytes_size, ← bytes_size]; omega
  have E : Hid (expT s.data.toList x = s.data.toList.take 1 ++ (if 1 < s.size then 46 :: s.data.toList.drop 1 else []) ++ (if x < 0 then [101] else [101, 43]) ++ Lib.itoa x) := by unfold Hid expT; rw [SZ]
  obtain ⟨l, hl⟩ : ∃ l, s.data.toList = l := ⟨_, rfl⟩
  rw [hl] at lH lR lD lD2 E ⊢
  obtain ⟨v, hv⟩ : ∃ v, expT l x = v := ⟨_, rfl⟩
  rw [hv] at E ⊢
  have HL := Lib.hid (And.intro lH lD2)
  have ov1 : ¬ 9223372036854775807 < 1 + R.size := by omega
  have ov2 : ¬ 9223372036854775807 < H.size + D.size := by omega
  clear hv hl lH lR lD lD2 hn SZ s0 T
  by_cases h1 : 1 < (s.size : Int)
  · by_cases h2 : x < 0
    · have gz : D2.size ≤ 1000002 := by omega
      obtain ⟨G, hG, lG⟩ := app_of D2 ⟨#[101]⟩ _ [101] HL.out.2 rfl
      have zG : G.size ≤ 1000004 := by rw [bytes_size, lG, List.length_append, ← HL.out.2, ← bytes_size]; show _ + 1 ≤ _; omega
      have LG := Lib.hid lG
      clear lG
      have ov3 : ¬ 9223372036854775807 < D2.size + 1 := by omega
      replace E := Lib.hid (E.out.trans (by rw [if_pos (show 1 < s.size by omega), if_pos h2]))
      go_enter Tryd.func54, Tryd.ntmps54
      go_wp2_with fail
      refine IT.out.mono ?_
      rintro e w2 ⟨Q, rfl, hQ, hb⟩
      have zQ : Q.size ≤ 300002 := by rw [bytes_size, hQ]; exact IL.out
      obtain ⟨F, hF, lF⟩ := app_of G Q _ _ LG.out hQ
      have LF := Lib.hid lF
      have HB := Lib.hid hb
      have ov4 : ¬ 9223372036854775807 < G.size + Q.size := by omega
      clear hb hQ lF
      go_wp2
      go_ret
      refine ⟨F, rfl, ?_, HB.out⟩
      rw [LF.out, E.out]; simp [List.append_assoc]
    · have gz : D2.size ≤ 1000002 := by omega
      obtain ⟨G, hG, lG⟩ := app_of D2 ⟨#[101, 43]⟩ _ [101, 43] HL.out.2 rfl
      have zG : G.size ≤ 1000004 := by rw [bytes_size, lG, List.length_append, ← HL.out.2, ← bytes_size]; show _ + 2 ≤ _; omega
      have LG := Lib.hid lG
      clear lG
      have ov3 : ¬ 9223372036854775807 < D2.size + 2 := by omega
      replace E := Lib.hid (E.out.trans (by rw [if_pos (show 1 < s.size by omega), if_neg h2]))
      go_enter Tryd.func54, Tryd.ntmps54
      go_wp2_with fail
      refine IT.out.mono ?_
      rintro e w2 ⟨Q, rfl, hQ, hb⟩
      have zQ : Q.size ≤ 300002 := by rw [bytes_size, hQ]; exact IL.out
      obtain ⟨F, hF, lF⟩ := app_of G Q _ _ LG.out hQ
      have LF := Lib.hid lF
      have HB := Lib.hid hb
      have ov4 : ¬ 9223372036854775807 < G.size + Q.size := by omega
      clear hb hQ lF
      go_wp2
      go_ret
      refine ⟨F, rfl, ?_, HB.out⟩
      rw [LF.out, E.out]; simp [List.append_assoc]
  · by_cases h2 : x < 0
    · have gz : H.size ≤ 1000002 := by omega
      obtain ⟨G, hG, lG⟩ := app_of H ⟨#[101]⟩ _ [101] HL.out.1 rfl
      have zG : G.size ≤ 1000004 := by rw [bytes_size, lG, List.length_append, ← HL.out.1, ← bytes_size]; show _ + 1 ≤ _; omega
      have LG := Lib.hid lG
      clear lG
      have ov3 : ¬ 9223372036854775807 < H.size + 1 := by omega
      replace E := Lib.hid (E.out.trans (by rw [if_neg (show ¬ 1 < s.size by omega), if_pos h2]))
      go_enter Tryd.func54, Tryd.ntmps54
      go_wp2_with fail
      refine IT.out.mono ?_
      rintro e w2 ⟨Q, rfl, hQ, hb⟩
      have zQ : Q.size ≤ 300002 := by rw [bytes_size, hQ]; exact IL.out
      obtain ⟨F, hF, lF⟩ := app_of G Q _ _ LG.out hQ
      have LF := Lib.hid lF
      have HB := Lib.hid hb
      have ov4 : ¬ 9223372036854775807 < G.size + Q.size := by omega
      clear hb hQ lF
      go_wp2
      go_ret
      refine ⟨F, rfl, ?_, HB.out⟩
      rw [LF.out, E.out]; simp [List.append_assoc]
    · have gz : H.size ≤ 1000002 := by omega
      obtain ⟨G, hG, lG⟩ := app_of H ⟨#[101, 43]⟩ _ [101, 43] HL.out.1 rfl
      have zG : G.size ≤ 1000004 := by rw [bytes_size, lG, List.length_append, ← HL.out.1, ← bytes_size]; show _ + 2 ≤ _; omega
      have LG := Lib.hid lG
      clear lG
      have ov3 : ¬ 9223372036854775807 < H.size + 2 := by omega
      replace E := Lib.hid (E.out.trans (by rw [if_neg (show ¬ 1 < s.size by omega), if_neg h2]))
      go_enter Tryd.func54, Tryd.ntmps54
      go_wp2_with fail
      refine IT.out.mono ?_
      rintro e w2 ⟨Q, rfl, hQ, hb⟩
      have zQ : Q.size ≤ 300002 := by rw [bytes_size, hQ]; exact IL.out
      obtain ⟨F, hF, lF⟩ := app_of G Q _ _ LG.out hQ
      have LF := Lib.hid lF
      have HB := Lib.hid hb
      have ov4 : ¬ 9223372036854775807 < G.size + Q.size := by omega
      clear hb hQ lF
      go_wp2
      go_ret
      refine ⟨F, rfl, ?_, HB.out⟩
      rw [LF.out, E.out]; simp [List.append_assoc]
set_option maxRecDepth 100000 in
set_option maxHeartbeats 8000000 in
theorem size_any (s : ByteArray) (p : Int) (w : World) (hs : s.size ≤ 1000000) (p0 : -250000 ≤ p) (p1 : p ≤ 250000) (T : Tabs w) :
    Calls Tryd.prog 39 #[.string s, .int .i64 p] w (StrPost (sizeT s.data.toList p) w) := by
  have SZ := bytes_size s
  have EM : s.toList.isEmpty = s.data.toList.isEmpty := bytes_empty s
  have WE := Lib.hid (fun h => withExp_any s (p - 1) w hs h (by omega) (by omega) T)
  have RP := Lib.hid (fun c hc W => repeat_any c W hc)
  obtain ⟨l, hl⟩ : ∃ l, s.data.toList = l := ⟨_, rfl⟩
  have E : Hid (sizeT l p = if l = [] then [48]
  else if 1 ≤ p ∧ p ≤ 21 then (if (l.length : Int) ≤ p then l ++ List.replicate (p.toNat - l.length) 48 else l.take p.toNat ++ [46] ++ l.drop p.toNat)
  else if -5 ≤ p ∧ p ≤ 0 then [48, 46] ++ List.replicate (-p).toNat 48 ++ l
  else expT l (p - 1)) := rfl
  rw [hl] at SZ EM WE ⊢
  obtain ⟨v, hv⟩ : ∃ v, sizeT l p = v := ⟨_, rfl⟩
  rw [hv] at E ⊢
  have HL := Lib.hid hl
  clear hv hl T
  by_cases h1 : l = []
  · have e1 : s.toList.isEmpty = true := by rw [EM, h1]; rfl
    have A : Hid (v = [48]) := by unfold Hid; rw [E.out, if_pos h1]
    clear E EM SZ h1 WE RP
    go_enter Tryd.func39, Tryd.ntmps39
    go_wp2
    go_ret
    exact ⟨_, rfl, by rw [A.out], by (repeat' first | exact Below.refl _ _ | refine Below.alloc ?_ ?_ _ | refine Below.setCell ?_ ?_ _ | refine below_drewN ?_ _ | (simp; done) | (simp; omega))⟩
  · have e1 : s.toList.isEmpty = false := by rw [EM]; exact List.isEmpty_eq_false_iff.2 h1
    have s0 : s.size ≠ 0 := fun e => h1 (List.eq_nil_of_length_eq_zero (by omega))
    replace E := Lib.hid (E.out.trans (if_neg h1))
    replace WE := Lib.hid (WE.out h1)
    clear EM h1
    by_cases h2 : 1 ≤ p ∧ p ≤ 21
    · obtain ⟨h2a, h2b⟩ := h2
      replace E := Lib.hid (E.out.trans (if_pos ⟨h2a, h2b⟩))
      clear WE
      by_cases h3 : (s.size : Int) ≤ p
      · obtain ⟨c, hc⟩ : ∃ c : Nat, p - (s.size : Int) = (c : Int) := ⟨(p - s.size).toNat, by omega⟩
        have w1 : IntKind.i64.wrap (p - (s.size : Int)) = (c : Int) := by rw [IntKind.wrap_i64]; omega
        have ec : p.toNat - l.length = c := by omega
        have R := Lib.hid (RP.out c (by omega) w)
        have cb : c ≤ 30 := by omega
        have A : Hid (v = l ++ List.replicate c 48) := by unfold Hid; rw [E.out, if_pos (by omega), ec]
        clear E hc ec SZ RP
        go_enter Tryd.func39, Tryd.ntmps39
        go_wp2_with fail
        refine R.out.mono ?_
        rintro e w2 ⟨Q, rfl, hQ, hb⟩
        have zQ : Q.size ≤ 30 := by rw [bytes_size, hQ, List.length_replicate]; exact cb
        obtain ⟨F, hF, lF⟩ := app_of s Q _ _ HL.out hQ
        have LF := Lib.hid lF
        have HB := Lib.hid hb
        have ov : ¬ 9223372036854775807 < s.size + Q.size := by omega
        clear hb hQ lF
        go_wp2
        go_ret
        exact ⟨F, rfl, by rw [LF.out, A.out], HB.out⟩
      · obtain ⟨m, rfl⟩ : ∃ m : Nat, p = (m : Int) := ⟨p.toNat, by omega⟩
        have A : Hid (v = l.take m ++ [46] ++ l.drop m) := by unfold Hid; rw [E.out, if_neg (by omega)]; rfl
        have m0 : (0 : Int) ≤ (m : Int) := by omega
        have m1 : (m : Int) ≤ (s.size : Int) := by omega
        obtain ⟨H, hH⟩ : ∃ H : ByteArray, s.extract 0 m = H := ⟨_, rfl⟩
        obtain ⟨R, hR⟩ : ∃ H : ByteArray, s.extract m s.size = H := ⟨_, rfl⟩
        have lH : H.data.toList = l.take m := by rw [← hH, Lib.extract_upto, HL.out]
        have lR : R.data.toList = l.drop m := by rw [← hR, Lib.extract_from, HL.out]
        have zH : H.size ≤ 1000000 := by rw [bytes_size, lH, List.length_take]; omega
        have zR : R.size ≤ 1000000 := by rw [bytes_size, lR, List.length_drop]; omega
        obtain ⟨D, hD, lD⟩ := app_of H ⟨#[46]⟩ _ [46] lH rfl
        have zD : D.size ≤ 1000001 := by rw [bytes_size, lD, List.length_append, ← lH, ← bytes_size]; show _ + 1 ≤ _; omega
        obtain ⟨F, hF, lF⟩ := app_of D R _ _ lD lR
        have LF := Lib.hid lF
        have ov1 : ¬ 9223372036854775807 < H.size + 1 := by omega
        have ov2 : ¬ 9223372036854775807 < D.size + R.size := by omega
        clear E SZ RP lH lR lD lF s0
        go_enter Tryd.func39, Tryd.ntmps39
        go_wp2
        go_quiet (fail)
        go_wp2
        go_ret
        exact ⟨F, rfl, by rw [LF.out, A.out], below_drewN (Below.refl _ _) _⟩
    · have b2 : (decide (1 ≤ p) && decide (p ≤ 21)) = false := by
        rw [Bool.and_eq_false_iff]
        by_cases q : 1 ≤ p
        · exact Or.inr (decide_eq_false (by omega))
        · exact Or.inl (decide_eq_false q)
      replace E := Lib.hid (E.out.trans (if_neg h2))
      by_cases h3 : -5 ≤ p ∧ p ≤ 0
      · obtain ⟨h3a, h3b⟩ := h3
        have h2c : ¬ 1 ≤ p := by omega
        have d2 : decide (1 ≤ p) = false := decide_eq_false h2c
        replace E := Lib.hid (E.out.trans (if_pos ⟨h3a, h3b⟩))
        obtain ⟨c, hc⟩ : ∃ c : Nat, -p = (c : Int) := ⟨(-p).toNat, by omega⟩
        have w1 : IntKind.i64.wrap (-p) = (c : Int) := by rw [IntKind.wrap_i64]; omega
        have R := Lib.hid (RP.out c (by omega) w)
        have cb : c ≤ 30 := by omega
        have A : Hid (v = [48, 46] ++ List.replicate c 48 ++ l) := by unfold Hid; rw [E.out, show (-p).toNat = c by omega]
        clear E hc SZ RP WE h2 b2
        go_enter Tryd.func39, Tryd.ntmps39
        go_wp2_with fail
        refine R.out.mono ?_
        rintro e w2 ⟨Q, rfl, hQ, hb⟩
        have zQ : Q.size ≤ 30 := by rw [bytes_size, hQ, List.length_replicate]; exact cb
        obtain ⟨D, hD, lD⟩ := app_of ⟨#[48, 46]⟩ Q [48, 46] _ rfl hQ
        have zD : D.size ≤ 32 := by rw [bytes_size, lD, List.length_append, ← hQ, ← bytes_size]; show 2 + _ ≤ _; omega
        obtain ⟨F, hF, lF⟩ := app_of D s _ _ lD HL.out
        have LF := Lib.hid lF
        have HB := Lib.hid hb
        have ov : ¬ 9223372036854775807 < 2 + Q.size := by omega
        have ov2 : ¬ 9223372036854775807 < D.size + s.size := by omega
        clear hb hQ lF lD
        go_wp2
        go_ret
        exact ⟨F, rfl, by rw [LF.out, A.out], HB.out⟩
      · replace E := Lib.hid (E.out.trans (if_neg h3))
        have w1 : IntKind.i64.wrap (p - 1) = p - 1 := by rw [IntKind.wrap_i64]; omega
        obtain ⟨y, hy⟩ : ∃ y, p - 1 = y := ⟨_, rfl⟩
        rw [hy] at WE E
        replace w1 := w1.trans hy
        clear hy RP SZ
        by_cases h4 : 21 < p
        · have d1 : 1 ≤ p := by omega
          have d2 : ¬ p ≤ 21 := by omega
          have d3 : -5 ≤ p := by omega
          have d4 : ¬ p ≤ 0 := by omega
          have d5 : decide (p ≤ 21) = false := decide_eq_false d2
          have d6 : decide (p ≤ 0) = false := decide_eq_false d4
          clear h2 h3 b2
          go_enter Tryd.func39, Tryd.ntmps39
          go_wp2_with fail
          refine WE.out.mono ?_
          rintro e w2 ⟨Q, rfl, hQ, hb⟩
          have HQ := Lib.hid hQ
          have HB := Lib.hid hb
          clear hQ hb
          go_wp2
          go_ret
          exact ⟨Q, rfl, by rw [HQ.out, E.out], HB.out⟩
        · have d1 : ¬ 1 ≤ p := by omega
          have d3 : ¬ -5 ≤ p := by omega
          have d5 : decide (1 ≤ p) = false := decide_eq_false d1
          have d6 : decide (-5 ≤ p) = false := decide_eq_false d3
          clear h2 h3 b2
          go_enter Tryd.func39, Tryd.ntmps39
          go_wp2_with fail
          refine WE.out.mono ?_
          rintro e w2 ⟨Q, rfl, hQ, hb⟩
          have HQ := Lib.hid hQ
          have HB := Lib.hid hb
          clear hQ hb
          go_wp2
          go_ret
          exact ⟨Q, rfl, by rw [HQ.out, E.out], HB.out⟩
set_option maxRecDepth 100000 in
set_option maxHeartbeats 8000000 in
theorem print_any (b : Bool) (s : ByteArray) (x : Int) (w : World) (hs : s.size ≤ 1000000) (T : Tabs w) :
    Calls Tryd.prog 24 #[.agg #[.bool b, .string s, .int .i64 x]] w (StrPost (printT b s.data.toList x) w) := by
  have RA := Lib.hid (fun W => right_any b s x W hs)
  have PT := Lib.hid (fun W => point_any b s x W hs)
  have pr := pointV_range s.data.toList x
  have SI := Lib.hid (fun W T => size_any s (pointV s.data.toList x) W hs (by omega) (by omega) T)
  have SL : rightV s.data.toList x = true → (sizeT s.data.toList (pointV s.data.toList x)).length ≤ 1000000 := fun h => by
    have hl := (rightV_len h).1
    unfold sizeT
    split
    · simp
    · split
      · split
        · rw [List.length_append, List.length_replicate]; omega
        · rw [List.length_append, List.length_append, List.length_take, List.length_drop, List.length_singleton]; omega
      · split
        · rw [List.length_append, List.length_append, List.length_replicate]; show 2 + _ + _ ≤ _; omega
        · unfold expT
          have := itoa_len (pointV s.data.toList x - 1) (by omega) (by omega)
          rw [List.length_append, List.length_append, List.length_append, List.length_take]
          have a : (if 1 < s.data.toList.length then (46 : UInt8) :: s.data.toList.drop 1 else []).length ≤ 1100 := by
            split
            · rw [List.length_cons, List.length_drop]; omega
            · simp
          have c : (if pointV s.data.toList x - 1 < 0 then [(101 : UInt8)] else [101, 43]).length ≤ 2 := by split <;> simp
          omega
  have E : Hid (printT b s.data.toList x = if rightV s.data.toList x = true then (if b = true then [45] else []) ++ sizeT s.data.toList (pointV s.data.toList x) else []) := rfl
  obtain ⟨p, hp⟩ : ∃ p, pointV s.data.toList x = p := ⟨_, rfl⟩
  rw [hp] at PT SI E SL
  obtain ⟨q, hq⟩ : ∃ q, sizeT s.data.toList p = q := ⟨_, rfl⟩
  rw [hq] at SI E SL
  obtain ⟨v, hv⟩ : ∃ v, printT b s.data.toList x = v := ⟨_, rfl⟩
  rw [hv] at E ⊢
  obtain ⟨r, hr⟩ : ∃ r, rightV s.data.toList x = r := ⟨_, rfl⟩
  rw [hr] at RA E SL
  have HT := Lib.hid T
  clear hp hq hv hr pr T
  obtain ⟨W, hW, ⟨e0, e1, e2⟩, hbW, sz⟩ := boxD1 w b s x
  have KS : Hid (∀ A Z : World, ((A.cell? ⟨w.heap.size, 0, none⟩ = some (.bool b) ∧ A.cell? ⟨w.heap.size, 1, none⟩ = some (.string s) ∧ A.cell? ⟨w.heap.size, 2, none⟩ = some (.int .i64 x)) ∧ ((w.heap.size < A.heap.size) ∧ Below w.heap.size w A)) → Below A.heap.size A Z → ((Z.cell? ⟨w.heap.size, 0, none⟩ = some (.bool b) ∧ Z.cell? ⟨w.heap.size, 1, none⟩ = some (.string s) ∧ Z.cell? ⟨w.heap.size, 2, none⟩ = some (.int .i64 x)) ∧ ((w.heap.size < Z.heap.size) ∧ Below w.heap.size w Z))) := by
    rintro A Z ⟨⟨h0, h1, h2⟩, l0, hb⟩ hx
    have hz := hx.size
    refine ⟨⟨(hx.cell (p := ⟨w.heap.size, 0, none⟩) l0).trans h0, (hx.cell (p := ⟨w.heap.size, 1, none⟩) l0).trans h1, (hx.cell (p := ⟨w.heap.size, 2, none⟩) l0).trans h2⟩, by omega, via hb hx⟩
  have ST : Hid ((W.cell? ⟨w.heap.size, 0, none⟩ = some (.bool b) ∧ W.cell? ⟨w.heap.size, 1, none⟩ = some (.string s) ∧ W.cell? ⟨w.heap.size, 2, none⟩ = some (.int .i64 x)) ∧ ((w.heap.size < W.heap.size) ∧ Below w.heap.size w W)) := ⟨⟨e0, e1, e2⟩, by omega, hbW⟩
  clear hbW sz e0 e1 e2
  cases r with
  | false =>
    have A : Hid (v = []) := E.out
    clear E SL
    obtain ⟨⟨z0, z1, z2⟩, zl, zB⟩ := ST.out
    clear zl zB
    go_enter Tryd.func24, Tryd.ntmps24
    go_wp2_with fail
    refine (RA.out _).mono ?_
    rintro e w1x ⟨rfl, hb⟩
    have ST1 := Lib.hid (KS.out _ _ ST.out hb)
    clear hb
    clear z0 z1 z2
    obtain ⟨⟨z0, z1, z2⟩, zl, zB⟩ := ST1.out
    clear zl zB
    go_wp2
    go_ret
    exact ⟨_, rfl, by rw [A.out], ST1.out.2.2⟩
  | true =>
    replace E := Lib.hid (E.out.trans (if_pos rfl))
    replace SL := Lib.hid (SL rfl)
    cases b with
    | true =>
      skip
      obtain ⟨⟨z0, z1, z2⟩, zl, zB⟩ := ST.out
      clear zl zB
      go_enter Tryd.func24, Tryd.ntmps24
      go_wp2_with fail
      refine (RA.out _).mono ?_
      rintro e w1x ⟨rfl, hb⟩
      have ST1 := Lib.hid (KS.out _ _ ST.out hb)
      clear hb
      clear z0 z1 z2
      obtain ⟨⟨z0, z1, z2⟩, zl, zB⟩ := ST1.out
      clear zl zB
      clear z0 z1 z2
      obtain ⟨⟨z0, z1, z2⟩, zl, zB⟩ := ST1.out
      clear zl zB
      go_wp2_with fail
      go_region_with ((first | (go_at_call 14; refine (PT.out _).mono ?_; rintro e wz ⟨rfl, hbz⟩; have STz : Hid ((wz.cell? ⟨w.heap.size, 0, none⟩ = some (.bool true) ∧ wz.cell? ⟨w.heap.size, 1, none⟩ = some (.string s) ∧ wz.cell? ⟨w.heap.size, 2, none⟩ = some (.int .i64 x)) ∧ ((w.heap.size < wz.heap.size) ∧ Below w.heap.size w wz)) := KS.out w1x.drew wz ⟨ST1.out.1, ST1.out.2.1, ST1.out.2.2.drew⟩ hbz; obtain ⟨⟨y0, y1, y2⟩, yl, yB⟩ := STz.out; clear yl yB hbz) | (go_at_call 39; refine (SI.out _ (HT.out.below STz.out.2.2)).mono ?_; rintro e wy ⟨Q, rfl, hQ, hby⟩; have HB := Lib.hid (via STz.out.2.2 hby); have zQ : Q.size ≤ 1000000 := (by rw [bytes_size, hQ]; exact SL.out); obtain ⟨F, hF, lF⟩ := app_of ⟨#[45]⟩ Q [45] _ rfl hQ; have LF := Lib.hid lF; have ov : ¬ 9223372036854775807 < 1 + Q.size := (by omega); have ov0 : ¬ 9223372036854775807 < Q.size := (by omega); clear hQ hby lF)))
      all_goals
        go_wp2
        go_ret
        exact ⟨F, rfl, by rw [LF.out, E.out]; rfl, HB.out⟩
    | false =>
      skip
      obtain ⟨⟨z0, z1, z2⟩, zl, zB⟩ := ST.out
      clear zl zB
      go_enter Tryd.func24, Tryd.ntmps24
      go_wp2_with fail
      refine (RA.out _).mono ?_
      rintro e w1x ⟨rfl, hb⟩
      have ST1 := Lib.hid (KS.out _ _ ST.out hb)
      clear hb
      clear z0 z1 z2
      obtain ⟨⟨z0, z1, z2⟩, zl, zB⟩ := ST1.out
      clear zl zB
      clear z0 z1 z2
      obtain ⟨⟨z0, z1, z2⟩, zl, zB⟩ := ST1.out
      clear zl zB
      go_wp2_with fail
      go_region_with ((first | (go_at_call 14; refine (PT.out _).mono ?_; rintro e wz ⟨rfl, hbz⟩; have STz : Hid ((wz.cell? ⟨w.heap.size, 0, none⟩ = some (.bool false) ∧ wz.cell? ⟨w.heap.size, 1, none⟩ = some (.string s) ∧ wz.cell? ⟨w.heap.size, 2, none⟩ = some (.int .i64 x)) ∧ ((w.heap.size < wz.heap.size) ∧ Below w.heap.size w wz)) := KS.out w1x.drew wz ⟨ST1.out.1, ST1.out.2.1, ST1.out.2.2.drew⟩ hbz; obtain ⟨⟨y0, y1, y2⟩, yl, yB⟩ := STz.out; clear yl yB hbz) | (go_at_call 39; refine (SI.out _ (HT.out.below STz.out.2.2)).mono ?_; rintro e wy ⟨Q, rfl, hQ, hby⟩; have HB := Lib.hid (via STz.out.2.2 hby); have zQ : Q.size ≤ 1000000 := (by rw [bytes_size, hQ]; exact SL.out); obtain ⟨F, hF, lF⟩ := app_of ⟨#[]⟩ Q [] _ rfl hQ; have LF := Lib.hid lF; have ov : ¬ 9223372036854775807 < 1 + Q.size := (by omega); have ov0 : ¬ 9223372036854775807 < Q.size := (by omega); clear hQ hby lF)))
      all_goals
        go_wp2
        go_ret
        exact ⟨F, rfl, by rw [LF.out, E.out]; rfl, HB.out⟩
end Go.Proofs.YtgjhpcmpgkfnkaaDoor
