/-
  The statement WholeOrders, walked.
-/
import Derived.Test.YtomeidbigofnaaaH2
namespace Go.Proofs.Ytomeidbigofnaaa
open Go.RowKit Go.Shelf

theorem cmp_neg (a b : Int) : cmpN b a = -cmpN a b := by
  unfold cmpN
  by_cases c : kindI a = 4 ∨ kindI b = 4
  · rw [if_pos c, if_pos (Or.symm c)]; rfl
  · rw [if_neg c, if_neg (fun d => c (Or.symm d)), ord_neg]
theorem cmpB_symm (a b : Int) : cmpB b a = cmpB a b := by
  unfold cmpB
  exact Bool.and_comm _ _
theorem cmpB_on {a b c : Int} (h1 : cmpB a b = true) (h2 : cmpB b c = true) : cmpB a c = true := by
  rw [cmpB_true] at *; omega
theorem cmpN_bd (a b : Int) : -1 ≤ cmpN a b ∧ cmpN a b ≤ 1 := by
  unfold cmpN; split
  · omega
  · exact ord_bd _ _
theorem cmpN_on {a b c : Int} (h1 : cmpB a b = true) (h2 : cmpB b c = true) : (cmpN a b ≤ 0 → cmpN b c ≤ 0 → cmpN a c ≤ 0) ∧ (cmpN a b < 0 → cmpN b c ≤ 0 → cmpN a c < 0) := by
  have c1 := cmpB_true.1 h1
  have c2 := cmpB_true.1 h2
  have c3 := cmpB_true.1 (cmpB_on h1 h2)
  unfold cmpN
  rw [if_neg c1, if_neg c2, if_neg c3]
  have e1 := @ord_lt (rankI a) (rankI b); have e2 := @ord_eq (rankI a) (rankI b); have e3 := @ord_gt (rankI a) (rankI b)
  have f1 := @ord_lt (rankI b) (rankI c); have f2 := @ord_eq (rankI b) (rankI c); have f3 := @ord_gt (rankI b) (rankI c)
  have g1 := @ord_lt (rankI a) (rankI c); have g2 := @ord_eq (rankI a) (rankI c); have g3 := @ord_gt (rankI a) (rankI c)
  constructor <;> intro x y <;> omega
theorem min_two {a b : Int} (h1 : Word a) (h2 : Word b) (h : cmpB a b = true) : (minI a b = a ∧ maxI a b = b) ∨ (minI a b = b ∧ maxI a b = a) := by
  obtain ⟨x, y, z⟩ := min_code h1 h2 h
  rcases Int.lt_trichotomy (cmpN a b) 0 with c | c | c
  · exact .inl (y c)
  · obtain ⟨_, _, e, f⟩ := x c
    rw [e, f]
    cases negB a <;> simp
  · exact .inr (z c)

set_option maxRecDepth 100000 in
set_option maxHeartbeats 4000000 in
theorem orders_any (a b c : Int) (h1 : Word a) (h2 : Word b) (h3 : Word c) (w : World) : Calls Try.prog 6 #[.int .u64 a, .int .u64 b, .int .u64 c] w (BoolPost true w) := by
  have C1 := Lib.hid (fun W => wcmp_any a b h1 h2 W)
  have C2 := Lib.hid (fun W => wcmp_any b a h2 h1 W)
  have C3 := Lib.hid (fun W => wcmp_any b c h2 h3 W)
  have C4 := Lib.hid (fun W => wcmp_any a c h1 h3 W)
  have M := Lib.hid (fun W => wmin_any a b h1 h2 W)
  have X := Lib.hid (fun W => wmax_any a b h1 h2 W)
  rw [cmp_neg a b, cmpB_symm a b] at C2
  have B1 := cmpN_bd a b
  have N := Lib.hid (fun h : cmpB a b = false => min_nan h)
  have T := Lib.hid (fun h : cmpB a b = true => min_two h1 h2 h)
  have O := Lib.hid (fun (h : cmpB a b = true) (h' : cmpB b c = true) => cmpB_on h h')
  have P := Lib.hid (fun (h : cmpB a b = true) (h' : cmpB b c = true) => cmpN_on h h')
  generalize cmpN a b = n at *
  generalize cmpN b c = k at *
  generalize cmpN a c = j at *
  generalize cmpB a b = o at *
  generalize cmpB b c = q at *
  generalize cmpB a c = r at *
  generalize minI a b = x at *
  generalize maxI a b = y at *
  clear h1 h2 h3
  cases o
  · obtain ⟨e1, e2, e3⟩ := N.out rfl
    subst e1 e2 e3
    clear N T O P
    go_enter Try.func6, Try.ntmps6
    go_wp2_with fail
    refine (shown6_any _).mono ?_
    rintro e w1 ⟨rfl, hb1⟩
    go_wp2_with fail
    refine (C1.out _).mono ?_
    rintro e w' ⟨rfl, rfl⟩
    go_wp2_with fail
    refine (C2.out _).mono ?_
    rintro e w' ⟨rfl, rfl⟩
    go_wp2_with fail
    refine (C3.out _).mono ?_
    rintro e w' ⟨rfl, rfl⟩
    go_wp2_with fail
    refine (C4.out _).mono ?_
    rintro e w' ⟨rfl, rfl⟩
    go_wp2_with fail
    refine (M.out _).mono ?_
    rintro e w' ⟨rfl, rfl⟩
    go_wp2_with fail
    refine (X.out _).mono ?_
    rintro e w' ⟨rfl, rfl⟩
    go_wp2
    go_ret
    exact ⟨by first | rfl | simp, hb1⟩
  have hn : n = -1 ∨ n = 0 ∨ n = 1 := by omega
  cases q
  · clear N O P B1
    have T1 := T.out rfl
    clear T
    rcases T1 with ⟨e1, e2⟩ | ⟨e1, e2⟩
    · subst e1 e2
      rcases hn with rfl | rfl | rfl
      all_goals
        go_enter Try.func6, Try.ntmps6
        go_wp2_with fail
        refine (shown6_any _).mono ?_
        rintro e w1 ⟨rfl, hb1⟩
        go_wp2_with fail
        refine (C1.out _).mono ?_
        rintro e w' ⟨rfl, rfl⟩
        go_wp2_with fail
        refine (C2.out _).mono ?_
        rintro e w' ⟨rfl, rfl⟩
        go_wp2_with fail
        refine (C3.out _).mono ?_
        rintro e w' ⟨rfl, rfl⟩
        go_wp2_with fail
        refine (C4.out _).mono ?_
        rintro e w' ⟨rfl, rfl⟩
        go_wp2_with fail
        refine (M.out _).mono ?_
        rintro e w' ⟨rfl, rfl⟩
        go_wp2_with fail
        refine (X.out _).mono ?_
        rintro e w' ⟨rfl, rfl⟩
        go_wp2
        go_ret
        exact ⟨by first | rfl | simp, hb1⟩
    · by_cases d : a = b
      · subst d
        subst e1 e2
        rcases hn with rfl | rfl | rfl
        all_goals
          go_enter Try.func6, Try.ntmps6
          go_wp2_with fail
          refine (shown6_any _).mono ?_
          rintro e w1 ⟨rfl, hb1⟩
          go_wp2_with fail
          refine (C1.out _).mono ?_
          rintro e w' ⟨rfl, rfl⟩
          go_wp2_with fail
          refine (C2.out _).mono ?_
          rintro e w' ⟨rfl, rfl⟩
          go_wp2_with fail
          refine (C3.out _).mono ?_
          rintro e w' ⟨rfl, rfl⟩
          go_wp2_with fail
          refine (C4.out _).mono ?_
          rintro e w' ⟨rfl, rfl⟩
          go_wp2_with fail
          refine (M.out _).mono ?_
          rintro e w' ⟨rfl, rfl⟩
          go_wp2_with fail
          refine (X.out _).mono ?_
          rintro e w' ⟨rfl, rfl⟩
          go_wp2
          go_ret
          exact ⟨by first | rfl | simp, hb1⟩
      · have t1 : (b == a) = false := by simpa using fun e => d e.symm
        subst e1 e2
        rcases hn with rfl | rfl | rfl
        all_goals
          go_enter Try.func6, Try.ntmps6
          go_wp2_with fail
          refine (shown6_any _).mono ?_
          rintro e w1 ⟨rfl, hb1⟩
          go_wp2_with fail
          refine (C1.out _).mono ?_
          rintro e w' ⟨rfl, rfl⟩
          go_wp2_with fail
          refine (C2.out _).mono ?_
          rintro e w' ⟨rfl, rfl⟩
          go_wp2_with fail
          refine (C3.out _).mono ?_
          rintro e w' ⟨rfl, rfl⟩
          go_wp2_with fail
          refine (C4.out _).mono ?_
          rintro e w' ⟨rfl, rfl⟩
          go_wp2_with fail
          refine (M.out _).mono ?_
          rintro e w' ⟨rfl, rfl⟩
          go_wp2_with fail
          refine (X.out _).mono ?_
          rintro e w' ⟨rfl, rfl⟩
          go_wp2
          go_ret
          exact ⟨by first | rfl | simp, hb1⟩
  have er : r = true := O.out rfl rfl
  obtain ⟨P1, P2⟩ := P.out rfl rfl
  subst er
  clear N O P B1
  have T1 := T.out rfl
  clear T
  have J : (n = 1) ∨ (n = 0 ∧ k ≤ 0 ∧ ¬ 0 < j) ∨ (n = 0 ∧ ¬ k ≤ 0) ∨ (n = -1 ∧ k ≤ 0 ∧ ¬ 0 < j ∧ ¬ 0 ≤ j) ∨ (n = -1 ∧ ¬ k ≤ 0) := by omega
  clear hn P1 P2
  rcases T1 with ⟨e1, e2⟩ | ⟨e1, e2⟩
  · subst e1 e2
    rcases J with rfl | ⟨rfl, j1, j2⟩ | ⟨rfl, j1⟩ | ⟨rfl, j1, j2, j3⟩ | ⟨rfl, j1⟩
    all_goals
      go_enter Try.func6, Try.ntmps6
      go_wp2_with fail
      refine (shown6_any _).mono ?_
      rintro e w1 ⟨rfl, hb1⟩
      go_wp2_with fail
      refine (C1.out _).mono ?_
      rintro e w' ⟨rfl, rfl⟩
      go_wp2_with fail
      refine (C2.out _).mono ?_
      rintro e w' ⟨rfl, rfl⟩
      go_wp2_with fail
      refine (C3.out _).mono ?_
      rintro e w' ⟨rfl, rfl⟩
      go_wp2_with fail
      refine (C4.out _).mono ?_
      rintro e w' ⟨rfl, rfl⟩
      go_wp2_with fail
      refine (M.out _).mono ?_
      rintro e w' ⟨rfl, rfl⟩
      go_wp2_with fail
      refine (X.out _).mono ?_
      rintro e w' ⟨rfl, rfl⟩
      go_wp2
      go_ret
      exact ⟨by first | rfl | simp, hb1⟩
  · by_cases d : a = b
    · subst d
      subst e1 e2
      rcases J with rfl | ⟨rfl, j1, j2⟩ | ⟨rfl, j1⟩ | ⟨rfl, j1, j2, j3⟩ | ⟨rfl, j1⟩
      all_goals
        go_enter Try.func6, Try.ntmps6
        go_wp2_with fail
        refine (shown6_any _).mono ?_
        rintro e w1 ⟨rfl, hb1⟩
        go_wp2_with fail
        refine (C1.out _).mono ?_
        rintro e w' ⟨rfl, rfl⟩
        go_wp2_with fail
        refine (C2.out _).mono ?_
        rintro e w' ⟨rfl, rfl⟩
        go_wp2_with fail
        refine (C3.out _).mono ?_
        rintro e w' ⟨rfl, rfl⟩
        go_wp2_with fail
        refine (C4.out _).mono ?_
        rintro e w' ⟨rfl, rfl⟩
        go_wp2_with fail
        refine (M.out _).mono ?_
        rintro e w' ⟨rfl, rfl⟩
        go_wp2_with fail
        refine (X.out _).mono ?_
        rintro e w' ⟨rfl, rfl⟩
        go_wp2
        go_ret
        exact ⟨by first | rfl | simp, hb1⟩
    · have t1 : (b == a) = false := by simpa using fun e => d e.symm
      subst e1 e2
      rcases J with rfl | ⟨rfl, j1, j2⟩ | ⟨rfl, j1⟩ | ⟨rfl, j1, j2, j3⟩ | ⟨rfl, j1⟩
      all_goals
        go_enter Try.func6, Try.ntmps6
        go_wp2_with fail
        refine (shown6_any _).mono ?_
        rintro e w1 ⟨rfl, hb1⟩
        go_wp2_with fail
        refine (C1.out _).mono ?_
        rintro e w' ⟨rfl, rfl⟩
        go_wp2_with fail
        refine (C2.out _).mono ?_
        rintro e w' ⟨rfl, rfl⟩
        go_wp2_with fail
        refine (C3.out _).mono ?_
        rintro e w' ⟨rfl, rfl⟩
        go_wp2_with fail
        refine (C4.out _).mono ?_
        rintro e w' ⟨rfl, rfl⟩
        go_wp2_with fail
        refine (M.out _).mono ?_
        rintro e w' ⟨rfl, rfl⟩
        go_wp2_with fail
        refine (X.out _).mono ?_
        rintro e w' ⟨rfl, rfl⟩
        go_wp2
        go_ret
        exact ⟨by first | rfl | simp, hb1⟩
end Go.Proofs.Ytomeidbigofnaaa
