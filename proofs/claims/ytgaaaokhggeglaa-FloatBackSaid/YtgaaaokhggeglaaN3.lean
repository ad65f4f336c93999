/-
  PROVED: for all bits FloatBack answers true: what is joined of a number's parts, as one word, as the other word, or as a list of limbs, is the number. No condition.
-/
import Derived.Test.YtgaaaokhggeglaaN2
import Derived.ProofKit
import Derived.Lib.SmallJoins
namespace Go.Proofs.Ytgaaaokhggeglaa
open Go.ChangeShapes Go.WideShapes Go.ChangeAt Go.RowKit Go.Joins Go.Shelf

theorem join_at2 {neg more : Bool} {v e : Int} {n : Nat} (hv : Bits v n) : ∀ (w : World) (en : Ending) (w' : World), JoinPost neg v e more w en w' → en = .returned (.int .u64 (joinV neg v e n more)) ∧ Below w.heap.size w w' := by
  intro w en w' h
  obtain ⟨m, hm, h1, h2, rfl, hb⟩ := join_full hv.v0 h
  refine ⟨?_, hb⟩
  by_cases hz : v = 0
  · unfold joinV; rw [if_pos (.inl hz), if_pos (.inl hz)]
  · have := len_unique h1 (h2 hz) hv.lt (hv.ge hz)
    rw [this, Int.toNat_natCast]
theorem join_word {np : Bool} {h l e : Int} {lost : Bool} {r : Int} (h1 : Word h) (h2 : Word l) (he0 : -9223372036854775808 ≤ e) (he1 : e ≤ 9223372036854775807) (hr : joinV np (val h l) e (blen (val h l)) lost = r) (w : World) :
    Calls Try.prog 8 #[.bool np, .agg #[.int .u64 h, .int .u64 l], .int .i64 e, .bool lost] w (WordPost r w) := by
  rw [← hr]; exact (join_any np h l e lost h1 h2 he0 he1 w).mono (join_at2 (blen_bits (val_bd h1 h2).1) w)
theorem sign_abs (x : Int) (h : Word x) : signI (negB x) + absI x = x := by
  unfold signI negB absI Word at *
  by_cases c : 9223372036854775808 ≤ x
  · rw [decide_eq_true c]; simp; omega
  · rw [decide_eq_false c]; simp; omega
theorem back_val {x : Int} (h : Word x) (hk : kindI x < 3) (k : Int) (h0 : 0 ≤ k) : rndI (negB x) (mantI x * pw k) (powI x - k) = x := by
  rw [rnd_scale _ _ (mant_bd x h).1 h0, show powI x - k + k = powI x by omega, rnd_neg, mant_self x h (fin_of_kind h hk), sign_abs x h]

set_option maxRecDepth 100000 in
set_option maxHeartbeats 400000 in
theorem back_any (x : Int) (hx : Word x) (w : World) : Calls Try.prog 3 #[.int .u64 x] w (TruePost w) := by
  obtain ⟨k, hk⟩ : ∃ z, kindI x = z := ⟨_, rfl⟩
  have KK := Lib.hid (fun w => kind_vars x k hx hk w)
  obtain ⟨ng, hng⟩ : ∃ z, negB x = z := ⟨_, rfl⟩
  obtain ⟨m, hm⟩ : ∃ z, mantI x = z := ⟨_, rfl⟩
  obtain ⟨e, he⟩ : ∃ z, powI x = z := ⟨_, rfl⟩
  have SP : Hid (∀ w, Calls Try.prog 6 #[.int .u64 x] w fun en w' => en = .returned (.tuple #[.bool ng, .int .u64 m, .int .i64 e]) ∧ w = w') := fun w => by
    rw [← hng, ← hm, ← he]; exact split_any x hx w
  have hz : 3 ≤ k → m = 0 ∧ e = 0 := by
    intro h
    have : expI x = 2047 := by
      by_cases c : expI x = 2047
      · exact c
      · have := kind_of_fin hx c; omega
    rw [← hm, ← he]; unfold mantI powI; rw [if_pos this, if_pos this]; exact ⟨rfl, rfl⟩
  obtain ⟨b0, b1, b2, b3⟩ := mant_bd x hx
  rw [hm] at b0 b1
  rw [he] at b2 b3
  have x0 := hx.1
  have hb : ng = decide (9223372036854775808 ≤ x) := hng.symm
  by_cases c : 3 ≤ k
  · obtain ⟨rfl, rfl⟩ := hz c
    clear hz hk hng hm he hb b0 b1 b2 b3 hx
    go_enter Try.func3, Try.ntmps3
    go_wp2_with fail
    refine (shown3_any _).mono ?_
    rintro en w1 ⟨rfl, hb1⟩
    go_wp2_with fail
    refine (SP.out _).mono ?_
    rintro en wz ⟨rfl, rfl⟩
    go_wp2_with fail
    refine (KK.out _).mono ?_
    rintro en wz ⟨rfl, rfl⟩
    go_wp2
    go_ret
    exact ⟨rfl, hb1⟩
  · have hk3 : kindI x < 3 := by omega
    have r0 := back_val hx hk3 0 (by decide)
    have r1 := back_val hx hk3 64 (by decide)
    have r2 := back_val hx hk3 32 (by decide)
    rw [hng, hm, he] at r0 r1 r2
    rw [show pw 0 = 1 from rfl, Int.mul_one, Int.sub_zero] at r0
    have wm : Word m := ⟨b0, by omega⟩
    have J1 : Hid (∀ w, Calls Try.prog 8 #[.bool ng, .agg #[.int .u64 0, .int .u64 m], .int .i64 e, .bool false] w (WordPost x w)) := fun w => by
      have ev : val 0 m = m := by unfold val; omega
      exact join_word (by decide) wm (by omega) (by omega) (by rw [ev]; exact r0) w
    have J2 : Hid (∀ w, Calls Try.prog 8 #[.bool ng, .agg #[.int .u64 m, .int .u64 0], .int .i64 (e - 64), .bool false] w (WordPost x w)) := fun w => by
      have ev : val m 0 = m * pw 64 := by unfold val; rw [pw_64]; omega
      exact join_word wm (by decide) (by omega) (by omega) (by rw [ev]; exact r1) w
    have m0 : 0 ≤ m % 4294967296 := by omega
    have m1 : m % 4294967296 < 4294967296 := by omega
    have d0 : 0 ≤ m / 4294967296 := by omega
    have d1 : m / 4294967296 < 4294967296 := by omega
    have RD : Hid (∀ (w : World) (b : Nat), Cells w b 0 [0, m % 4294967296, m / 4294967296, 0] → Calls Try.prog 9 #[.bool ng, .slice (some ⟨b, 0, none⟩) 4 4, .int .i64 (e - 32), .bool false] w (WordPost x w)) := fun w b hc => by
      have h := round_any ng [0, m % 4294967296, m / 4294967296, 0] b 0 4 (e - 32) false w hc (by
        intro y hy
        simp only [List.mem_cons, List.not_mem_nil, or_false] at hy
        unfold Limb
        rcases hy with rfl | rfl | rfl | rfl <;> omega) (by simp) (by decide) (by omega) (by omega)
      have ev : natV [0, m % 4294967296, m / 4294967296, 0] = m * pw 32 := by
        show 0 + 4294967296 * (m % 4294967296 + 4294967296 * (m / 4294967296 + 4294967296 * (0 + 4294967296 * 0))) = m * 4294967296
        omega
      rw [ev] at h
      have : joinV ng (m * pw 32) (e - 32) (blen (m * pw 32)) false = x := r2
      rw [this] at h
      exact h
    have hw : IntKind.u32.wrap (m % 4294967296) = m % 4294967296 := by show m % 4294967296 % 4294967296 = _; omega
    have hw2 : IntKind.u32.wrap (m / 4294967296) = m / 4294967296 := by show m / 4294967296 % 4294967296 = _; omega
    have HBB := Lib.hid hb
    clear hz hk hng hm he r0 r1 r2 hx wm hk3 hb
    go_enter Try.func3, Try.ntmps3
    go_wp2_with fail
    refine (shown3_any _).mono ?_
    rintro en w1 ⟨rfl, hb1⟩
    have HB1 := Lib.hid hb1
    go_wp2_with fail
    refine (SP.out _).mono ?_
    rintro en wz ⟨rfl, rfl⟩
    go_wp2_with fail
    refine (KK.out _).mono ?_
    rintro en wz ⟨rfl, rfl⟩
    go_wp2_with fail
    refine (J1.out _).mono ?_
    rintro en w2 ⟨rfl, hb2⟩
    have HB2 : Hid (Below w.heap.size w w2) := HB1.out.trans (hb2.mono HB1.out.size)
    go_wp2_with fail
    refine (J2.out _).mono ?_
    rintro en w3 ⟨rfl, hb3⟩
    have HB3 : Hid (Below w.heap.size w w3) := HB2.out.trans (hb3.mono HB2.out.size)
    clear hb1 hb2 hb3
    go_wp2_with fail
    refine (RD.out _ _ ⟨by simp, fun i hi => ?_⟩).mono ?_
    · match i, hi with
      | 0, _ => simp [go_sem]
      | 1, _ => simp [go_sem]
      | 2, _ => simp [go_sem]
      | 3, _ => simp [go_sem]
    rintro en w4 ⟨rfl, hb4⟩
    have HB4 : Hid (Below w.heap.size w w4) := (HB3.out.alloc HB3.out.size _).trans (hb4.mono (by have := HB3.out.size; simp; omega))
    clear hb4
    by_cases c2 : 9223372036854775808 ≤ x
    · obtain rfl : ng = true := HBB.out.trans (decide_eq_true c2)
      clear HBB
      go_wp2
      go_ret
      exact ⟨rfl, HB4.out⟩
    · obtain rfl : ng = false := HBB.out.trans (decide_eq_false c2)
      clear HBB
      go_wp2
      go_ret
      refine ⟨?_, HB4.out⟩
      show Ending.returned (Value.bool (!decide (9223372036854775808 ≤ x))) = _
      rw [decide_eq_false (by omega)]; rfl

theorem Try.own : ownKnob Try.prog.godebug = none := by kernel_rfl
theorem word_of_wf {x : Int} (h : (Lit.int .u64 x).wf = true) : Word x := by
  simp [Lit.wf, IntKind.min, IntKind.max, IntKind.signed, IntKind.bits] at h
  exact ⟨by omega, by omega⟩
set_option maxRecDepth 100000 in
theorem floatBack_lifted (os : Os) (started : os.Started) (H : Type) (enc : TypeId × Value → H) :
    ReturnsInHanded {} Try.checked os 3 .any (Rows.floatBackSpec.pre6 enc Try.prog Try.f3 Rows.floatBackRow.domain false) (Rows.floatBackSpec.post enc Try.prog Try.f3 false true false false) := by
  refine returnsInHanded_of_change (C := Try.checked) Try.own started (by kernel_rfl) Try.func3
    (ChangeSpec.witness6 (enc := enc) (C := Try.checked) false ⟨#[], #[.int .u64 0], []⟩ 8 (by kernel_rfl) (by kernel_rfl) (by kernel_rfl) (by kernel_rfl)) ?_
  intro W base args ds gs before hval0 hW _ _
  have hval : ∀ (j : Nat) t v, Try.f3.params[j]? = some t → args[j]? = some v → Value.okWide Try.prog W .any base t v := hval0
  have hW' := hW
  obtain ⟨p, q, hA0, hV, rfl, _, _⟩ := hW
  have hA : DataW.TrodAll enc Try.prog W 0 (fun _ => true) true Try.f3.params.toList args.toList ds p := hA0
  rw [Try.params3] at hA hval
  obtain ⟨v0, d0, rfl, rfl, h0⟩ := trodAll_one hA
  obtain ⟨rfl, rfl⟩ := trodVars_none hV
  obtain ⟨n, rfl, rfl, rfl, wn⟩ := open_int Try.underlying22 (hval 0 22 v0 rfl rfl) h0
  clear hA0 hval0
  simp only [List.append_nil] at hW'
  refine (back_any n (word_of_wf wn) W).mono fun e W' ⟨he, hb⟩ => ?_
  subst he
  exact ⟨_, rfl, _, _, _, [], [], [], hW', trodAll_mk1 (shut_bool Try.underlying4 _), trodAll_mk1 (shut_int Try.underlying22 wn), rfl, hb.frame _, fun h => by cases h⟩

theorem floatBack_holds : Rows.FloatBackSaid :=
  OpenClaim.holds_of_wide 3 Try.f3 rfl rfl rfl rfl rfl rfl rfl ⟨rfl, rfl, rfl, rfl, rfl⟩ rfl rfl rfl rfl rfl (by kernel_rfl) Try.func3 (by kernel_rfl)
    (of_decide_eq_true (by kernel_rfl)) (by unfold Func.isWrapper; first | (rw [if_pos (by decide +kernel)]; kernel_rfl) | (rw [if_neg (by decide +kernel)]; exact ⟨rfl, rfl⟩))
    (fun os started H enc _ => floatBack_lifted os started H enc)
#print axioms floatBack_holds
end Go.Proofs.Ytgaaaokhggeglaa
