/-
  The statement WholeNears, walked.
-/
import Derived.Test.YtnefacnceemklaaDoorK24
import Derived.Test.YtnefacnceemklaaDoorK23
import Derived.Test.YtnefacnceemklaaDoorH2
namespace Go.Proofs.YtnefacnceemklaaDoor
open Go.RowKit Go.Shelf

set_option maxRecDepth 100000 in
set_option maxHeartbeats 8000000 in
theorem nears_odd (x : Int) (hx : Word x) (hk : 3 ≤ kindI x) (w : World) : Calls Tryd.prog 12 #[.int .u64 x] w (BoolPost true w) := by
  obtain ⟨k, hkk⟩ : ∃ z, kindI x = z := ⟨_, rfl⟩
  have KA := Lib.hid (fun W => rkind_vars x k hx hkk W)
  have WE := Lib.hid (fun W => whole_at x 0 hx (by decide) (by decide) W)
  have RG := Lib.hid (fun W => rright_any x hx W)
  have IS := Lib.hid (fun W => wis_any x hx W)
  have e1 : wholeV 0 x = rightI x := by unfold wholeV; rw [if_pos hk]
  have e2 : isB x = false := by unfold isB; rw [decide_eq_false (by omega)]; rfl
  rw [e1] at WE
  rw [e2] at IS
  generalize rightI x = r at *
  have k3 : 3 ≤ k := by omega
  clear hx hk hkk e1 e2
  go_enter Tryd.func12, Tryd.ntmps12
  go_wp2_with fail
  refine (shown6_any _).mono ?_
  rintro en w1 ⟨rfl, hb1⟩
  go_wp2_with fail
  refine (KA.out _).mono ?_
  rintro en wz ⟨rfl, rfl⟩
  go_wp2_with fail
  refine (WE.out _).mono ?_
  rintro en w2 ⟨rfl, hb2⟩
  have hB2 := hb1.trans (hb2.mono hb1.size)
  go_wp2_with fail
  refine (RG.out _).mono ?_
  rintro en wz ⟨rfl, rfl⟩
  go_wp2_with fail
  refine (IS.out _).mono ?_
  rintro en w3 ⟨rfl, hb3⟩
  have hB3 := hB2.trans (hb3.mono hB2.size)
  go_wp2
  go_ret
  exact ⟨by first | rfl | simp, hB3⟩
/-- What the walk of the finite numbers wants. -/
structure NearAt (x low high g : Int) (ib : Bool) : Prop where
  w4 : wholeV 4 x = low
  w5 : wholeV 5 x = high
  all : ∀ y, wholeV y x = low ∨ wholeV y x = high
  wl : Word low
  wh : Word high
  low' : ∀ y, y = low ∨ y = high → Word y ∧ isB y = true ∧ (∀ i, wholeV i y = y) ∧ y.tdiv 9223372036854775808 = g ∧ 0 ≤ y
  n : cmpN low x ≤ 0
  m : cmpN x high ≤ 0
  t : wholeV 4 (turnI x) = turnI high
  sub : ib = false → subV high low = 4607182418800017408
  isb : isB x = ib
  gx : x.tdiv 9223372036854775808 = g
  lx : (low == x) = ib
  hx : ib = true → (high == x) = true
theorem near_at {x : Int} (h : Word x) (hk : kindI x < 3) : ∃ low high g ib, NearAt x low high g ib := by
  obtain ⟨low, high, w4, w5, al, wl, wh, kl, kh, ll, lh, nl, nh, n, m, t, d⟩ := nears_main h hk
  have sg : ∀ y, Word y → negB y = negB x → y.tdiv 9223372036854775808 = x.tdiv 9223372036854775808 := by
    intro y wy ny
    rw [Int.tdiv_eq_ediv_of_nonneg wy.1, Int.tdiv_eq_ediv_of_nonneg h.1]
    unfold negB at ny
    by_cases c : 9223372036854775808 ≤ x
    · rw [decide_eq_true c] at ny
      have := of_decide_eq_true ny
      unfold Word at *; omega
    · rw [decide_eq_false c] at ny
      have := of_decide_eq_false ny
      unfold Word at *; omega
  have one : ∀ y, Word y → kindI y < 3 → leftI y = 0 → negB y = negB x → Word y ∧ isB y = true ∧ (∀ i, wholeV i y = y) ∧ y.tdiv 9223372036854775808 = x.tdiv 9223372036854775808 ∧ 0 ≤ y := fun y wy ky ly ny =>
    ⟨wy, by unfold isB; rw [decide_eq_true ky, ly]; rfl, fun i => whole_exact wy ky ly, sg y wy ny, wy.1⟩
  refine ⟨low, high, _, isB x, w4, w5, al, wl, wh, ?_, n, m, t, ?_, rfl, rfl, ?_, ?_⟩
  · rintro y (rfl | rfl)
    · exact one _ wl kl ll nl
    · exact one _ wh kh lh nh
  · intro e
    rcases d with ⟨d, _⟩ | ⟨_, _, d⟩
    · rw [d] at e; cases e
    · exact d
  · rcases d with ⟨d, e, _⟩ | ⟨d, e, _⟩
    · rw [d, e]; simp
    · rw [d]; simpa using e
  · intro e
    rcases d with ⟨_, _, d⟩ | ⟨d, _⟩
    · rw [d]; simp
    · rw [d] at e; cases e
set_option maxRecDepth 100000 in
set_option maxHeartbeats 8000000 in
theorem nears_fin (x : Int) (h : Word x) (hk : kindI x < 3) (w : World) (hT : Tabs1 w) : Calls Tryd.prog 12 #[.int .u64 x] w (BoolPost true w) := by
  obtain ⟨low, high, g, ib, ha⟩ := near_at h hk
  obtain ⟨k, hkk⟩ : ∃ z, kindI x = z := ⟨_, rfl⟩
  have KA := Lib.hid (fun W => rkind_vars x k h hkk W)
  have k3 : ¬ 3 ≤ k := by omega
  have W4 := Lib.hid (fun W => by have c := whole_at x 4 h (by decide) (by decide) W; rw [ha.w4] at c; exact c)
  have W5 := Lib.hid (fun W => by have c := whole_at x 5 h (by decide) (by decide) W; rw [ha.w5] at c; exact c)
  have IS := Lib.hid (fun W => by have c := wis_any x h W; rw [ha.isb] at c; exact c)
  have WI := Lib.hid (fun i (i0 : 0 ≤ i) (i5 : i ≤ 5) W => whole_at x i h i0 i5 W)
  have AL := Lib.hid (fun i => ha.low' _ (ha.all i))
  have AA := Lib.hid ha.all
  have C1 := Lib.hid (fun W => wcmp_any low x ha.wl h W)
  have C2 := Lib.hid (fun W => wcmp_any x high h ha.wh W)
  have SB := Lib.hid (fun (e : ib = false) W hT => by have c := minus1_any high low ha.wh ha.wl W hT; rw [ha.sub e] at c; exact c)
  have WT := Lib.hid (fun W => by have c := whole_at (turnI x) 4 (turn_word x) (by decide) (by decide) W; rw [ha.t] at c; exact c)
  have XT := u64_xor_top x h
  have XH := u64_xor_top high ha.wh
  have n1 : ¬ 0 < cmpN low x := by have := ha.n; omega
  have m1 : ¬ 0 < cmpN x high := by have := ha.m; omega
  have gx := ha.gx
  have lx := ha.lx
  have hx2 := Lib.hid ha.hx
  have x0 := h.1
  have HT := Lib.hid hT
  generalize cmpN low x = cn at *
  generalize cmpN x high = cm at *
  generalize cmpB low x = bn at *
  generalize cmpB x high = bm at *
  generalize turnI x = tx at *
  generalize turnI high = th at *
  clear ha h hk hkk hT
  cases ib
  · go_enter Tryd.func12, Tryd.ntmps12
    go_wp2_with fail
    refine (shown6_any _).mono ?_
    rintro en w1 ⟨rfl, hb1⟩
    go_wp2_with fail
    refine (KA.out _).mono ?_
    rintro en wz ⟨rfl, rfl⟩
    go_wp2_with fail
    refine (W4.out _).mono ?_
    rintro en w2 ⟨rfl, hb2⟩
    have hB2 := hb1.trans (hb2.mono hb1.size)
    go_wp2_with fail
    refine (W5.out _).mono ?_
    rintro en w3 ⟨rfl, hb3⟩
    have hB3 := hB2.trans (hb3.mono hB2.size)
    go_wp2_with fail
    refine (IS.out _).mono ?_
    rintro en w4 ⟨rfl, hb4⟩
    have hB4 := hB3.trans (hb4.mono hB3.size)
    clear hb1 hb2 hB2 hb3 hB3 hb4
    go_wp2_with fail
    go_loopw [10] (fun ii wx => ∃ i : Nat, ii = .int .i64 (i : Int) ∧ i ≤ 6 ∧ Below w.heap.size w wx) (fun ii _ => 6 - (intOf ii).toNat)
    case atStart => exact ⟨0, rfl, by decide, hB4⟩
    case round =>
      obtain ⟨i, rfl, hi, hB⟩ := hrel
      rename World => W
      clear hB4
      by_cases c : i < 6
      · have c' : (i : Int) < 6 := by omega
        obtain ⟨y0, y1, y2, y3, y4⟩ := AL.out (i : Int)
        have WY := Lib.hid (WI.out (i : Int) (by omega) (by omega))
        have yl := AA.out (i : Int)
        generalize wholeV (i : Int) x = y at *
        have WZ := Lib.hid (fun W => by have c := whole_at y (5 - (i : Int)) y0 (by omega) (by omega) W; rw [y2] at c; exact c)
        have IY := Lib.hid (fun W => by have c := wis_any y y0 W; rw [y1] at c; exact c)
        clear y0 y1 y2 WI AL AA W4 W5 C1 C2 SB WT
        by_cases q : y = low
        · subst q
          clear yl
          go_wp2_with fail
          refine (WY.out _).mono ?_
          rintro en w5 ⟨rfl, hb5⟩
          have hB5 := hB.trans (hb5.mono hB.size)
          go_wp2_with fail
          refine (WZ.out _).mono ?_
          rintro en w6 ⟨rfl, hb6⟩
          have hB6 := hB5.trans (hb6.mono hB5.size)
          go_wp2_with fail
          refine (IY.out _).mono ?_
          rintro en w7 ⟨rfl, hb7⟩
          have hB7 := hB6.trans (hb7.mono hB6.size)
          go_wp2
          go_roundw
          case rel => exact ⟨i + 1, by go_num, by omega, hB7⟩
          case measure => first | (simp [intOf]; done) | (simp [intOf]; omega)
        · have q2 := yl.resolve_left q
          clear yl
          subst q2
          go_wp2_with fail
          refine (WY.out _).mono ?_
          rintro en w5 ⟨rfl, hb5⟩
          have hB5 := hB.trans (hb5.mono hB.size)
          go_wp2_with fail
          refine (WZ.out _).mono ?_
          rintro en w6 ⟨rfl, hb6⟩
          have hB6 := hB5.trans (hb6.mono hB5.size)
          go_wp2_with fail
          refine (IY.out _).mono ?_
          rintro en w7 ⟨rfl, hb7⟩
          have hB7 := hB6.trans (hb7.mono hB6.size)
          go_wp2
          go_roundw
          case rel => exact ⟨i + 1, by go_num, by omega, hB7⟩
          case measure => first | (simp [intOf]; done) | (simp [intOf]; omega)
      · obtain rfl : i = 6 := by omega
        clear WI AL AA W4 W5
        go_wp2_with fail
        refine (C1.out _).mono ?_
        rintro en wz ⟨rfl, rfl⟩
        go_wp2_with fail
        refine (C2.out _).mono ?_
        rintro en wz ⟨rfl, rfl⟩
        go_wp2_with fail
        refine (IS.out _).mono ?_
        rintro en w5 ⟨rfl, hb5⟩
        have hB5 := hB.trans (hb5.mono hB.size)
        go_wp2_with fail
        refine (SB.out (by first | rfl | trivial) _ (HT.out.below hB5)).mono ?_
        rintro en w6 ⟨rfl, hb6⟩
        have hB6 := hB5.trans (hb6.mono hB5.size)
        go_wp2_with fail
        refine (WT.out _).mono ?_
        rintro en w7 ⟨rfl, hb7⟩
        have hB7 := hB6.trans (hb7.mono hB6.size)
        go_wp2
        go_ret
        exact ⟨by first | rfl | simp, hB7⟩
  · have hhx := hx2.out rfl
    go_enter Tryd.func12, Tryd.ntmps12
    go_wp2_with fail
    refine (shown6_any _).mono ?_
    rintro en w1 ⟨rfl, hb1⟩
    go_wp2_with fail
    refine (KA.out _).mono ?_
    rintro en wz ⟨rfl, rfl⟩
    go_wp2_with fail
    refine (W4.out _).mono ?_
    rintro en w2 ⟨rfl, hb2⟩
    have hB2 := hb1.trans (hb2.mono hb1.size)
    go_wp2_with fail
    refine (W5.out _).mono ?_
    rintro en w3 ⟨rfl, hb3⟩
    have hB3 := hB2.trans (hb3.mono hB2.size)
    go_wp2_with fail
    refine (IS.out _).mono ?_
    rintro en w4 ⟨rfl, hb4⟩
    have hB4 := hB3.trans (hb4.mono hB3.size)
    clear hb1 hb2 hB2 hb3 hB3 hb4
    go_wp2_with fail
    go_loopw [10] (fun ii wx => ∃ i : Nat, ii = .int .i64 (i : Int) ∧ i ≤ 6 ∧ Below w.heap.size w wx) (fun ii _ => 6 - (intOf ii).toNat)
    case atStart => exact ⟨0, rfl, by decide, hB4⟩
    case round =>
      obtain ⟨i, rfl, hi, hB⟩ := hrel
      rename World => W
      clear hB4
      by_cases c : i < 6
      · have c' : (i : Int) < 6 := by omega
        obtain ⟨y0, y1, y2, y3, y4⟩ := AL.out (i : Int)
        have WY := Lib.hid (WI.out (i : Int) (by omega) (by omega))
        have yl := AA.out (i : Int)
        generalize wholeV (i : Int) x = y at *
        have WZ := Lib.hid (fun W => by have c := whole_at y (5 - (i : Int)) y0 (by omega) (by omega) W; rw [y2] at c; exact c)
        have IY := Lib.hid (fun W => by have c := wis_any y y0 W; rw [y1] at c; exact c)
        clear y0 y1 y2 WI AL AA W4 W5 C1 C2 SB WT
        by_cases q : y = low
        · subst q
          clear yl
          go_wp2_with fail
          refine (WY.out _).mono ?_
          rintro en w5 ⟨rfl, hb5⟩
          have hB5 := hB.trans (hb5.mono hB.size)
          go_wp2_with fail
          refine (WZ.out _).mono ?_
          rintro en w6 ⟨rfl, hb6⟩
          have hB6 := hB5.trans (hb6.mono hB5.size)
          go_wp2_with fail
          refine (IY.out _).mono ?_
          rintro en w7 ⟨rfl, hb7⟩
          have hB7 := hB6.trans (hb7.mono hB6.size)
          go_wp2
          go_roundw
          case rel => exact ⟨i + 1, by go_num, by omega, hB7⟩
          case measure => first | (simp [intOf]; done) | (simp [intOf]; omega)
        · have q2 := yl.resolve_left q
          clear yl
          subst q2
          go_wp2_with fail
          refine (WY.out _).mono ?_
          rintro en w5 ⟨rfl, hb5⟩
          have hB5 := hB.trans (hb5.mono hB.size)
          go_wp2_with fail
          refine (WZ.out _).mono ?_
          rintro en w6 ⟨rfl, hb6⟩
          have hB6 := hB5.trans (hb6.mono hB5.size)
          go_wp2_with fail
          refine (IY.out _).mono ?_
          rintro en w7 ⟨rfl, hb7⟩
          have hB7 := hB6.trans (hb7.mono hB6.size)
          go_wp2
          go_roundw
          case rel => exact ⟨i + 1, by go_num, by omega, hB7⟩
          case measure => first | (simp [intOf]; done) | (simp [intOf]; omega)
      · obtain rfl : i = 6 := by omega
        clear WI AL AA W4 W5
        go_wp2_with fail
        refine (C1.out _).mono ?_
        rintro en wz ⟨rfl, rfl⟩
        go_wp2_with fail
        refine (C2.out _).mono ?_
        rintro en wz ⟨rfl, rfl⟩
        go_wp2_with fail
        refine (IS.out _).mono ?_
        rintro en w5 ⟨rfl, hb5⟩
        have hB5 := hB.trans (hb5.mono hB.size)
        have hB6 := hB5
        go_wp2_with fail
        refine (WT.out _).mono ?_
        rintro en w7 ⟨rfl, hb7⟩
        have hB7 := hB6.trans (hb7.mono hB6.size)
        go_wp2
        go_ret
        exact ⟨by first | rfl | simp, hB7⟩
theorem nears_any (x : Int) (h : Word x) (w : World) (hT : Tabs1 w) : Calls Tryd.prog 12 #[.int .u64 x] w (BoolPost true w) := by
  by_cases k : kindI x < 3
  · exact nears_fin x h k w hT
  · exact nears_odd x h (by omega) w
end Go.Proofs.YtnefacnceemklaaDoor
