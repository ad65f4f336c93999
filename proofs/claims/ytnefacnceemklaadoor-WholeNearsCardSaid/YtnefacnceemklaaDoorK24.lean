/-
  The two whole numbers beside a number.
-/
import Derived.Test.YtnefacnceemklaaDoorK21a
import Derived.Test.YtnefacnceemklaaDoorG11
namespace Go.Proofs.YtnefacnceemklaaDoor
open Go.RowKit Go.Shelf

theorem wh_facts {s : Bool} {M : Int} (h0 : 0 ≤ M) (h1 : M ≤ 4503599627370496) : Word (rndI s M 0) ∧ kindI (rndI s M 0) < 3 ∧ negB (rndI s M 0) = s ∧ XI (rndI s M 0) = M * pw 1074 ∧ leftI (rndI s M 0) = 0 ∧ rndI s M 0 = signI s + absI (rndI s M 0) := by
  have mono := rnd_mono 0 h0 h1
  rw [show rndI false 4503599627370496 0 = 4841369599423283200 by decide +kernel] at mono
  have ex := rnd_exact h0 (by omega) (show (-1074 : Int) ≤ 0 by decide) (by omega)
  rw [show (0 : Int) + 1074 = 1074 by decide] at ex
  have bd := rnd_bd 0 h0
  rw [rnd_neg]
  generalize rndI false M 0 = x at *
  have s01 : signI s = 0 ∨ signI s = 9223372036854775808 := by cases s <;> simp [signI]
  obtain ⟨r, hr⟩ : ∃ r, signI s + x = r := ⟨_, rfl⟩
  rw [hr]
  have rw1 : Word r := by unfold Word; omega
  have ar : absI r = x := by unfold absI; omega
  have xx : absI x = x := by unfold absI; omega
  have xr : XI r = M * pw 1074 := by rw [XI_same (ar.trans xx.symm)]; exact ex
  have nr : negB r = s := by
    cases s
    · unfold negB; simp [signI] at hr; simp; omega
    · unfold negB; simp [signI] at hr; simp; omega
  refine ⟨rw1, kind_of_abs (by omega), nr, xr, ?_, by omega⟩
  unfold leftI
  by_cases c : 0 ≤ powI r
  · rw [if_pos c]
  · rw [if_neg c]
    obtain ⟨m0, m1, p0, p1⟩ := mant_bd r rw1
    unfold XI at xr
    have e : pw 1074 = pw (-powI r) * pw (powI r + 1074) := by rw [← pw_add _ _ (by omega) (by omega)]; congr 1; omega
    rw [e, ← Int.mul_assoc] at xr
    have q := Int.eq_of_mul_eq_mul_right (show pw (powI r + 1074) ≠ 0 by have := pw_pos (powI r + 1074); omega) xr
    rw [q]; exact Int.mul_emod_left _ _
theorem left_facts {x : Int} (h : Word x) (hl : leftI x ≠ 0) : 0 ≤ wholI x ∧ wholI x < 4503599627370496 ∧ wholI x * pw 1074 ≤ XI x ∧ XI x ≤ (wholI x + 1) * pw 1074 := by
  obtain ⟨m0, m1, p0, p1⟩ := mant_bd x h
  have c : ¬ 0 ≤ powI x := fun c => hl (by unfold leftI; rw [if_pos c])
  unfold wholI XI
  rw [if_neg c]
  have p := pw_pos (-powI x)
  have p2 := pow_lt (a := 1) (b := -powI x) (by decide) (by omega)
  rw [show pw 1 = 2 from rfl] at p2
  have q := pw_pos (powI x + 1074)
  have e : pw 1074 = pw (-powI x) * pw (powI x + 1074) := by rw [← pw_add _ _ (by omega) (by omega)]; congr 1; omega
  have n0 : 0 ≤ mantI x / pw (-powI x) := Int.ediv_nonneg m0 (Int.le_of_lt p)
  have d := Int.emod_add_mul_ediv (mantI x) (pw (-powI x))
  have r0 := Int.emod_nonneg (mantI x) (show pw (-powI x) ≠ 0 by omega)
  have r1 := Int.emod_lt_of_pos (mantI x) p
  rw [e, ← Int.mul_assoc, ← Int.mul_assoc]
  refine ⟨n0, ?_, ?_, ?_⟩
  · refine Int.ediv_lt_of_lt_mul p ?_
    omega
  · refine Int.mul_le_mul_of_nonneg_right ?_ (Int.le_of_lt q)
    rw [Int.mul_comm]; omega
  · refine Int.mul_le_mul_of_nonneg_right ?_ (Int.le_of_lt q)
    rw [Int.add_mul, Int.mul_comm]; omega
theorem left_turn (x : Int) : leftI (turnI x) = leftI x ∧ wholI (turnI x) = wholI x := by
  have e1 : expI (turnI x) = expI x := by unfold expI turnI; omega
  have e2 : fracI (turnI x) = fracI x := by unfold fracI turnI; omega
  have m : mantI (turnI x) = mantI x := by unfold mantI; rw [e1, e2]
  have p : powI (turnI x) = powI x := by unfold powI; rw [e1]
  unfold leftI wholI
  rw [m, p]; exact ⟨rfl, rfl⟩
theorem neg_turn {x : Int} (h : Word x) : negB (turnI x) = !negB x := by
  unfold negB turnI
  obtain ⟨a, b⟩ := h
  by_cases c : 9223372036854775808 ≤ x
  · rw [decide_eq_true c, decide_eq_false (by omega)]; rfl
  · rw [decide_eq_false c, decide_eq_true (by omega)]; rfl
theorem rank_le {x y : Int} (h1 : Word x) (h2 : Word y) (k1 : kindI x < 3) (k2 : kindI y < 3) {s : Bool} (n1 : negB x = s) (n2 : negB y = s) (h : if s = true then XI y ≤ XI x else XI x ≤ XI y) : cmpN x y ≤ 0 := by
  have s1 := sign_abs x h1
  have s2 := sign_abs y h2
  unfold cmpN
  rw [if_neg (by omega)]
  have : ¬ rankW y < rankW x := by
    unfold rankW
    rw [n1, n2]
    rw [n1] at s1; rw [n2] at s2
    cases s
    · simp [signI] at *
      have := (XI_le_iff h1 h2 (fin_of_kind h1 k1) (fin_of_kind h2 k2)).1 h
      omega
    · simp [signI] at *
      have := (XI_le_iff h2 h1 (fin_of_kind h2 k2) (fin_of_kind h1 k1)).1 h
      omega
  have g := ord_gt (a := rankW x) (b := rankW y)
  omega
theorem R_one : R (pw 1074) = 4607182418800017408 := by decide +kernel
theorem sub_one {s : Bool} {N : Int} (h0 : 0 ≤ N) (h1 : N < 4503599627370496) : subV (if s = true then rndI s N 0 else rndI s (N + 1) 0) (if s = true then rndI s (N + 1) 0 else rndI s N 0) = 4607182418800017408 := by
  obtain ⟨a1, a2, a3, a4, _, _⟩ := wh_facts (s := s) h0 (by omega)
  obtain ⟨b1, b2, b3, b4, _, _⟩ := wh_facts (s := s) (M := N + 1) (by omega) (by omega)
  have p := pw_pos 1074
  have bz : kindI (rndI s (N + 1) 0) ≠ 0 := fun c => by
    have z := (XI_zero _ b1 (fin_of_kind b1 b2)).2 (kind_zero.1 c)
    rw [b4] at z
    rcases Int.mul_eq_zero.1 z with z | z <;> omega
  generalize rndI s N 0 = a at *
  generalize rndI s (N + 1) 0 = b at *
  have gen : ∀ u v, Word u → Word v → kindI u < 3 → kindI v < 3 → ¬ (kindI u = 0 ∧ kindI v = 0) → subV u v = R (sX u - sX v) := by
    intro u v hu hv ku kv hz
    unfold subV
    have kn : kindI (negI v) = kindI v := by unfold negI; rw [if_neg (by omega), kind_turn]
    rw [add_finite hu (neg_word v hv) ku (by rw [kn]; exact kv) (by rw [kn]; exact hz)]
    have sn : sX (negI v) = -sX v := by
      unfold negI; rw [if_neg (by omega)]
      unfold sX; rw [XI_turn, neg_turn hv]
      cases negB v <;> simp
    rw [sn]; congr 1
  cases s
  · rw [if_neg (by decide), if_neg (by decide), gen b a b1 a1 b2 a2 (fun c => bz c.1)]
    unfold sX; rw [b3, a3, if_neg (by decide), if_neg (by decide), b4, a4, Int.add_mul, Int.one_mul, show N * pw 1074 + pw 1074 - N * pw 1074 = pw 1074 by omega]; exact R_one
  · rw [if_pos rfl, if_pos rfl, gen a b a1 b1 a2 b2 (fun c => bz c.2)]
    unfold sX; rw [b3, a3, if_pos rfl, if_pos rfl, b4, a4, Int.add_mul, Int.one_mul, show -(N * pw 1074) - -(N * pw 1074 + pw 1074) = pw 1074 by omega]; exact R_one
theorem nears_main {x : Int} (h : Word x) (hk : kindI x < 3) : ∃ low high, wholeV 4 x = low ∧ wholeV 5 x = high ∧ (∀ y, wholeV y x = low ∨ wholeV y x = high) ∧
    Word low ∧ Word high ∧ kindI low < 3 ∧ kindI high < 3 ∧ leftI low = 0 ∧ leftI high = 0 ∧ negB low = negB x ∧ negB high = negB x ∧ cmpN low x ≤ 0 ∧ cmpN x high ≤ 0 ∧
    wholeV 4 (turnI x) = turnI high ∧ ((isB x = true ∧ low = x ∧ high = x) ∨ (isB x = false ∧ low ≠ x ∧ subV high low = 4607182418800017408)) := by
  by_cases hl : leftI x = 0
  · have w : ∀ y, wholeV y x = x := fun y => whole_exact h hk hl
    have self : cmpN x x ≤ 0 := rank_le h h hk hk rfl rfl (by split <;> exact Int.le_refl _)
    refine ⟨x, x, w 4, w 5, fun y => .inl (w y), h, h, hk, hk, hl, hl, rfl, rfl, self, self, whole_exact (turn_word x) (by rw [kind_turn]; exact hk) ((left_turn x).1.trans hl), .inl ⟨?_, rfl, rfl⟩⟩
    unfold isB; rw [decide_eq_true hk, hl]; rfl
  · obtain ⟨N0, N1, X0, X1⟩ := left_facts h hl
    have ib : isB x = false := by unfold isB; rw [show (leftI x == 0) = false by simpa using hl, Bool.and_false]
    have lz : (!(leftI x == 0)) = true := by rw [show (leftI x == 0) = false by simpa using hl]; rfl
    have wv : ∀ y, wholeV y x = rndI (negB x) (wholI x + (if upX y x = true then 1 else 0)) 0 := fun y => by unfold wholeV; rw [if_neg (by omega)]
    have u4 : upX 4 x = negB x := by unfold upX; rw [lz]; rfl
    have u5 : upX 5 x = !negB x := by unfold upX; rw [lz]; rfl
    have wt : wholeV 4 (turnI x) = rndI (!negB x) (wholI x + (if (!negB x) = true then 1 else 0)) 0 := by
      unfold wholeV
      rw [kind_turn, if_neg (by omega), neg_turn h, (left_turn x).2]
      have : upX 4 (turnI x) = !negB x := by unfold upX; rw [(left_turn x).1, lz, neg_turn h]; rfl
      rw [this]
    obtain ⟨N, hN⟩ : ∃ N, wholI x = N := ⟨_, rfl⟩
    obtain ⟨s, hs⟩ : ∃ s, negB x = s := ⟨_, rfl⟩
    rw [hN] at N0 N1 X0 X1 wt
    obtain ⟨a1, a2, a3, a4, a5, a6⟩ := wh_facts (s := s) N0 (by omega)
    obtain ⟨b1, b2, b3, b4, b5, b6⟩ := wh_facts (s := s) (M := N + 1) (by omega) (by omega)
    have so := sub_one (s := s) N0 N1
    have tn : ∀ M, 0 ≤ M → rndI (!s) M 0 = turnI (rndI s M 0) := by
      intro M h0
      have bd := rnd_bd 0 h0
      rw [rnd_neg s, rnd_neg (!s)]
      unfold turnI
      cases s <;> simp [signI] <;> omega
    have wv2 : ∀ y, wholeV y x = rndI s N 0 ∨ wholeV y x = rndI s (N + 1) 0 := fun y => by
      rw [wv y, hN, hs]
      cases upX y x
      · left; simp
      · right; simp
    have w4 : wholeV 4 x = rndI s (N + (if s = true then 1 else 0)) 0 := by rw [wv 4, u4, hN, hs]
    have w5 : wholeV 5 x = rndI s (N + (if (!s) = true then 1 else 0)) 0 := by rw [wv 5, u5, hN, hs]
    rw [hs] at wt
    rw [tn _ (by split <;> omega)] at wt
    have nx : ∀ r, leftI r = 0 → r ≠ x := fun r hr e => hl (by rw [← e]; exact hr)
    clear wv u4 u5
    cases s
    · rw [if_neg (by decide), Int.add_zero] at w4
      rw [if_pos (by decide)] at w5
      rw [if_pos (by decide)] at wt
      rw [if_neg (by decide), if_neg (by decide)] at so
      refine ⟨_, _, w4, w5, fun y => wv2 y, a1, b1, a2, b2, a5, b5, by rw [a3, hs], by rw [b3, hs], ?_, ?_, wt, .inr ⟨ib, nx _ a5, so⟩⟩
      · exact rank_le a1 h a2 hk a3 hs (by rw [if_neg (by decide), a4]; exact X0)
      · exact rank_le h b1 hk b2 hs b3 (by rw [if_neg (by decide), b4]; exact X1)
    · rw [if_pos rfl] at w4
      rw [if_neg (by decide), Int.add_zero] at w5
      rw [if_neg (by decide), Int.add_zero] at wt
      rw [if_pos rfl, if_pos rfl] at so
      refine ⟨_, _, w4, w5, fun y => (wv2 y).symm, b1, a1, b2, a2, b5, a5, by rw [b3, hs], by rw [a3, hs], ?_, ?_, wt, .inr ⟨ib, nx _ b5, so⟩⟩
      · exact rank_le b1 h b2 hk b3 hs (by rw [if_pos rfl, b4]; exact X1)
      · exact rank_le h a1 hk a2 hs a3 (by rw [if_pos rfl, a4]; exact X0)
end Go.Proofs.YtnefacnceemklaaDoor
