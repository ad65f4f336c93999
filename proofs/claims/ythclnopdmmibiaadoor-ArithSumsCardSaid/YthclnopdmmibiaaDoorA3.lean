/-
  The sum of two finite numbers that are no zeros: the walk.
-/
import Derived.Test.YthclnopdmmibiaaDoorA2
namespace Go.Proofs.YthclnopdmmibiaaDoor
open Go.RowKit Go.Shelf

theorem join_word {np : Bool} {h l e : Int} {n : Nat} {lost : Bool} {r : Int} (h1 : Word h) (h2 : Word l) (he0 : -9223372036854775808 ≤ e) (he1 : e ≤ 9223372036854775807) (hb : Bits (val h l) n) (hr : joinV np (val h l) e n lost = r) (w : World) :
    Calls Tryd.prog 26 #[.bool np, .agg #[.int .u64 h, .int .u64 l], .int .i64 e, .bool lost] w (WordPost r w) := by
  rw [← hr]; exact (join_any np h l e lost h1 h2 he0 he1 w).mono (join_at hb w)

set_option maxRecDepth 100000 in
set_option maxHeartbeats 4000000 in
theorem added_any (a b : Int) (h1 : Word a) (h2 : Word b) (f1 : expI a ≠ 2047) (f2 : expI b ≠ 2047) (z1 : absI a ≠ 0) (z2 : absI b ≠ 0) (w : World) :
    Calls Tryd.prog 16 #[.int .u64 a, .int .u64 b] w (WordPost (R (sX a + sX b)) w) := by
  obtain ⟨ra, hra⟩ : ∃ z, absI a = z := ⟨_, rfl⟩
  obtain ⟨rb, hrb⟩ : ∃ z, absI b = z := ⟨_, rfl⟩
  have HA := Lib.hid (fun w => abs_fin a ra h1 f1 hra w)
  have HB := Lib.hid (fun w => abs_fin b rb h2 f2 hrb w)
  have base : Hid (∃ p q, (p = a ∧ q = b ∨ p = b ∧ q = a) ∧ True) := ⟨a, b, .inl ⟨rfl, rfl⟩, trivial⟩
  have Hs : Hid (∀ p q : Int, (p = a ∧ q = b ∧ rb ≤ ra) ∨ (p = b ∧ q = a ∧ ra < rb) → ∃ up d gh gl sh sl lost, SumAt p q (sX a + sX b) (negB p) (negB q) (mantI p) (mantI q) (powI p) (powI q) up d gh gl sh sl lost ∧ Word p ∧ Word q) := by
    rintro p q (⟨rfl, rfl, h⟩ | ⟨rfl, rfl, h⟩)
    · obtain ⟨up, d, gh, gl, sh, sl, lost, S⟩ := sum_at h1 h2 f1 f2 z1 z2 (by omega)
      exact ⟨up, d, gh, gl, sh, sl, lost, S, h1, h2⟩
    · obtain ⟨up, d, gh, gl, sh, sl, lost, S⟩ := sum_at h2 h1 f2 f1 z2 z1 (by omega)
      rw [Int.add_comm] at S
      exact ⟨up, d, gh, gl, sh, sl, lost, S, h2, h1⟩
  clear base h1 h2 f1 f2 z1 z2 hra hrb
  generalize sX a + sX b = s0 at *
  go_enter Tryd.func16, Tryd.ntmps16
  go_wp2_with fail
  refine (HA.out _).mono ?_
  rintro en w1 ⟨rfl, rfl⟩
  go_wp2_with fail
  refine (HB.out _).mono ?_
  rintro en w1 ⟨rfl, rfl⟩
  go_upto_if 23 with fail
  go_cut [0, 1] (fun va vb wx => ∃ p q : Int, va = .int .u64 p ∧ vb = .int .u64 q ∧ ((p = a ∧ q = b ∧ rb ≤ ra) ∨ (p = b ∧ q = a ∧ ra < rb)) ∧ w = wx)
  case first =>
    by_cases c : ra < rb
    · go_wp2
      go_meet
      exact ⟨b, a, rfl, rfl, .inr ⟨rfl, rfl, c⟩, rfl⟩
    · go_wp2
      go_meet
      exact ⟨a, b, rfl, rfl, .inl ⟨rfl, rfl, c⟩, rfl⟩
  case rest =>
    obtain ⟨p, q, rfl, rfl, hpq, rfl⟩ := hcut
    obtain ⟨up, d, gh, gl, sh, sl, lost, S, h1, h2⟩ := Hs.out p q hpq
    have SP := Lib.hid (fun w => split_vars p _ _ _ h1 rfl rfl rfl w)
    have SQ := Lib.hid (fun w => split_vars q _ _ _ h2 rfl rfl rfl w)
    clear Hs hpq HA HB h1 h2
    generalize negB p = np at *
    generalize negB q = nq at *
    generalize mantI p = mp at *
    generalize mantI q = mq at *
    generalize powI p = ep at *
    generalize powI q = eq at *
    obtain ⟨m0, m1, n0, n1, e0, e1, e2, e3, hup, hd, G1, G2, GV, S1, S2, SV, hlo, same, zero, diff⟩ := S
    have SH : Hid (∀ w, Calls Tryd.prog 32 #[.agg #[.int .u64 0, .int .u64 mp], .int .i64 up] w fun e w' => e = .returned (.agg #[.int .u64 gh, .int .u64 gl]) ∧ Below w.heap.size w w') := fun w => by
      have hv : val 0 mp * pw up % 340282366920938463463374607431768211456 = mp * pw up := by
        have : val 0 mp = mp := by unfold val; omega
        rw [this, Int.emod_eq_of_lt]
        · rw [← GV]; exact (val_bd G1 G2).1
        · rw [← GV]; exact (val_bd G1 G2).2
      exact (shl_any 0 mp up (by decide) ⟨m0, m1⟩ (by omega) w).mono (U128Post.at G1 G2 (GV.trans hv.symm) w)
    have SR : Hid (∀ w, Calls Tryd.prog 33 #[.agg #[.int .u64 0, .int .u64 mq], .int .i64 d] w fun e w' => e = .returned (.tuple #[.agg #[.int .u64 sh, .int .u64 sl], .bool lost]) ∧ Below w.heap.size w w') := fun w => by
      have hv : val 0 mq = mq := by unfold val; omega
      exact (shr_any 0 mq d (by decide) ⟨n0, n1⟩ (by omega) w).mono (ShrPost.at S1 S2 (by rw [hv, SV]) (by rw [hv, hlo]) w)
    have hU : min (ep - eq) 70 = up := hup.symm
    have u0 : 0 ≤ up := by omega
    have u1 : up ≤ 70 := by omega
    have hD : ep - up - eq = d := hd.symm
    have j0 : -9223372036854775808 ≤ ep - up := by omega
    have j1 : ep - up ≤ 9223372036854775807 := by omega
    have d0 : 0 ≤ d := by omega
    have d1 : d ≤ 10000 := by omega
    clear hup hd hlo GV SV
    go_wp2_with fail
    refine (SP.out _).mono ?_
    rintro en w1 ⟨rfl, rfl⟩
    go_wp2_with fail
    refine (SQ.out _).mono ?_
    rintro en w1 ⟨rfl, rfl⟩
    go_wp2_with fail
    refine (SH.out _).mono ?_
    rintro en w1 ⟨rfl, hb1⟩
    have HB1 := Lib.hid hb1
    have y1 := hb1.size
    clear hb1
    go_wp2_with fail
    refine (SR.out _).mono ?_
    rintro en w2 ⟨rfl, hb2⟩
    have y2 := hb2.size; simp at y2
    have g20 : w2.cell? ⟨w1.heap.size, 0, none⟩ = some (.int .u64 gh) := by rw [(bcell hb2).1 _ _ (by simp)]; simp [go_sem]
    have g21 : w2.cell? ⟨w1.heap.size, 1, none⟩ = some (.int .u64 gl) := by rw [(bcell hb2).1 _ _ (by simp)]; simp [go_sem]
    have HB2 : Hid (Below w.heap.size w w2) := (HB1.out.alloc (by omega) _).trans (hb2.mono (by simp; omega))
    have y2' : w1.heap.size < w2.heap.size := by omega
    have yw : w.heap.size ≤ w2.heap.size := by omega
    have y12 : w1.heap.size ≠ w2.heap.size := by omega
    clear hb2 HB1 y2
    by_cases hn : np = nq
    · obtain ⟨rh, rl, R1, R2, RV, n, hbits, hj⟩ := same hn
      subst hn
      have AD := Lib.hid (fun w => (add_any gh gl sh sl G1 G2 S1 S2 w).mono (AddPost.at R1 R2 RV w))
      have JN := Lib.hid (fun w => join_word R1 R2 j0 j1 hbits hj w)
      clear same zero diff G1 G2 S1 S2 R1 R2 RV hbits hj
      go_wp2_with fail
      refine (AD.out _).mono ?_
      rintro en w3 ⟨rfl, hb3⟩
      have y3 := hb3.size; simp at y3
      have HB3 : Hid (Below w.heap.size w w3) := (HB2.out.alloc yw _).trans (hb3.mono (by simp; omega))
      clear hb3 HB2
      go_wp2_with fail
      refine (JN.out _).mono ?_
      rintro en w4 ⟨rfl, hb4⟩
      have HB4 : Hid (Below w.heap.size w w4) := (HB3.out.alloc (by omega) _).trans (hb4.mono (by simp; omega))
      clear hb4 HB3
      go_wp2
      go_ret
      exact ⟨rfl, HB4.out⟩
    · have hnb : (np == nq) = false := by simpa using hn
      by_cases h0 : val gh gl - val sh sl = 0
      · have hR := Lib.hid (zero hn h0)
        have SB := Lib.hid (fun w => (sub_any gh gl sh sl G1 G2 S1 S2 w).mono (SubPost.at (r := 0) (t := 0) (by decide) (by decide) (by rw [h0]; rfl) w))
        clear same zero diff G1 G2 S1 S2 h0 hn
        go_wp2_with fail
        refine (SB.out _).mono ?_
        rintro en w3 ⟨rfl, hb3⟩
        have y3 := hb3.size; simp at y3
        have HB3 : Hid (Below w.heap.size w w3) := (HB2.out.alloc yw _).trans (hb3.mono (by simp; omega))
        clear hb3 HB2
        go_wp2
        go_ret
        exact ⟨congrArg (fun z => Ending.returned (.int .u64 z)) hR.out.symm, HB3.out.alloc (by omega) _⟩
      · obtain ⟨rh, rl, th, tl, R1, R2, RV, T1, T2, TV, n, hbits, hj⟩ := diff hn h0
        have SB := Lib.hid (fun w => (sub_any gh gl sh sl G1 G2 S1 S2 w).mono (SubPost.at R1 R2 RV w))
        have JN := Lib.hid (fun w => join_word T1 T2 j0 j1 hbits hj w)
        have hne : ¬ (rh = 0 ∧ rl = 0) := by rintro ⟨rfl, rfl⟩; apply h0; rw [← RV]; rfl
        have hne : ((rh == 0) && (rl == 0)) = false := by
          rcases Bool.eq_false_or_eq_true ((rh == 0) && (rl == 0)) with k | k
          · simp only [Bool.and_eq_true, beq_iff_eq] at k; exact absurd k hne
          · exact k
        cases lost
        · have eT : th = rh ∧ tl = rl := val_inj T1 T2 R1 R2 (by rw [TV]; simp)
          obtain ⟨rfl, rfl⟩ := eT
          clear same zero diff G1 G2 S1 S2 h0 hn R1 R2 RV T1 T2 TV hbits hj
          go_wp2_with fail
          refine (SB.out _).mono ?_
          rintro en w3 ⟨rfl, hb3⟩
          have y3 := hb3.size; simp at y3
          have HB3 : Hid (Below w.heap.size w w3) := (HB2.out.alloc yw _).trans (hb3.mono (by simp; omega))
          clear hb3 HB2
          rcases Bool.eq_false_or_eq_true (th == 0) with k1 | k1 <;> rcases Bool.eq_false_or_eq_true (tl == 0) with k2 | k2 <;> rw [k1, k2] at hne
          · cases hne
          all_goals
            clear hne
            go_wp2_with fail
            refine (JN.out _).mono ?_
            rintro en w4 ⟨rfl, hb4⟩
            have HB4 : Hid (Below w.heap.size w w4) := (HB3.out.alloc (by omega) _).trans (hb4.mono (by simp; omega))
            clear hb4 HB3
            go_wp2
            go_ret
            exact ⟨rfl, HB4.out⟩
        · have SO := Lib.hid (fun w => (sub_any rh rl 0 1 R1 R2 (by decide) (by decide) w).mono (SubPost.at T1 T2 (by rw [TV]; simp [val]) w))
          clear same zero diff G1 G2 S1 S2 h0 hn R1 R2 RV T1 T2 TV hbits hj
          go_wp2_with fail
          refine (SB.out _).mono ?_
          rintro en w3 ⟨rfl, hb3⟩
          have y3 := hb3.size; simp at y3
          have HB3 : Hid (Below w.heap.size w w3) := (HB2.out.alloc yw _).trans (hb3.mono (by simp; omega))
          clear hb3 HB2
          rcases Bool.eq_false_or_eq_true (rh == 0) with k1 | k1 <;> rcases Bool.eq_false_or_eq_true (rl == 0) with k2 | k2 <;> rw [k1, k2] at hne
          · cases hne
          all_goals
            clear hne
            go_wp2_with fail
            refine (SO.out _).mono ?_
            rintro en w4 ⟨rfl, hb4⟩
            have y4 := hb4.size; simp at y4
            have c0 : w4.cell? ⟨w3.heap.size, 0, none⟩ = some (.int .u64 rh) := by rw [(bcell hb4).1 _ _ (by simp)]; simp [go_sem]
            have c1 : w4.cell? ⟨w3.heap.size, 1, none⟩ = some (.int .u64 rl) := by rw [(bcell hb4).1 _ _ (by simp)]; simp [go_sem]
            have cf : ∀ o, w4.frozen? ⟨w3.heap.size, o, none⟩ = false := fun o => by rw [(bcell hb4).2 _ _ (by simp)]; simp [go_sem]
            have HB4 : Hid (Below w.heap.size w w4) := (HB3.out.alloc (by omega) _).trans (hb4.mono (by simp; omega))
            clear hb4 HB3
            go_wp2_with fail
            refine (JN.out _).mono ?_
            rintro en w5 ⟨rfl, hb5⟩
            have HB5 : Hid (Below w.heap.size w w5) := ((HB4.out.setCell (by simp; omega) _).setCell (by simp; omega) _).trans (hb5.mono (by simp [World.setCell]; omega))
            clear hb5 HB4
            go_wp2
            go_ret
            exact ⟨rfl, HB5.out⟩
end Go.Proofs.YthclnopdmmibiaaDoor
