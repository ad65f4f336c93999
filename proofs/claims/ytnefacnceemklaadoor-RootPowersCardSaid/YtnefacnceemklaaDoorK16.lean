/-
  The document's power: walked.
-/
import Derived.Test.YtnefacnceemklaaDoorX8
import Derived.Test.YtnefacnceemklaaDoorK11
import Derived.Test.YtnefacnceemklaaDoorX5
namespace Go.Proofs.YtnefacnceemklaaDoor
open Go.RowKit Go.Shelf

set_option maxRecDepth 100000 in
set_option maxHeartbeats 4000000 in
theorem rpower5_any (a n : Int) (h : Word a) (n0 : -9223372036854775808 ≤ n) (n1 : n ≤ 9223372036854775807) (w : World) :
    Calls Tryd.prog 23 #[.int .u64 a, .int .i64 n] w (WordPost (powerV a n) w) := by
  obtain ⟨k, hk⟩ : ∃ z, kindI a = z := ⟨_, rfl⟩
  have NA := Lib.hid (fun W => none5 a k h hk W)
  have V : Hid (powerV a n = if k = 4 then 9221120237041090560 else if n < 0 then divV 4607182418800017408 (powU a 64 (-n).toNat) else powU a 64 n.toNat) := by unfold Hid powerV; rw [hk]
  have PW := Lib.hid (fun k q => powU_word h k q)
  have HA := Lib.hid h
  generalize powerV a n = v at *
  by_cases k4 : k = 4
  · have tk : (k == 4) = true := by simpa using k4
    have fin : Hid (v = 9221120237041090560) := by unfold Hid; rw [V.out, if_pos k4]
    clear V h hk
    go_enter Tryd.func23, Tryd.ntmps23
    go_wp2_with (go_at_call 39; refine (NA.out _).mono ?_; rintro e w' ⟨rfl, rfl⟩)
    go_ret
    exact ⟨by rw [fin.out]; rfl, Below.refl _ _⟩
  have tk : (k == 4) = false := by simpa using k4
  by_cases c0 : n < 0
  · obtain ⟨m, hm⟩ : ∃ m : Nat, -n = (m : Int) := ⟨(-n).toNat, by omega⟩
    have em : (-n).toNat = m := by omega
    have fin : Hid (v = divV 4607182418800017408 (powU a 64 m)) := by unfold Hid; rw [V.out, if_neg k4, if_pos c0, em]
    have w1 : IntKind.u64.wrap (-(IntKind.u64.wrap n)) = (m : Int) := by rw [IntKind.wrap_u64, IntKind.wrap_u64]; omega
    obtain ⟨z, hz⟩ : ∃ z, IntKind.u64.wrap n = z := ⟨_, rfl⟩
    rw [hz] at w1
    have W1 := Lib.hid w1
    have PR := Lib.hid (fun i => powU_round a m 64 i)
    have st0 : Hid (powU a 0 (m / 2 ^ (64 - 0)) = 4607182418800017408) := rfl
    have DV := Lib.hid (fun W => rdiv5_any 4607182418800017408 (powU a 64 m) (by decide) (PW.out 64 m) W)
    clear V h hk em hm
    go_enter Tryd.func23, Tryd.ntmps23
    go_wp2_with (go_at_call 39; refine (NA.out _).mono ?_; rintro e w' ⟨rfl, rfl⟩)
    go_loopw [6, 7] (fun v ii wx => ∃ (k : Nat), ii = .int .i64 (63 - (k : Int)) ∧ v = .int .u64 (powU a k (m / 2 ^ (64 - k))) ∧ k ≤ 64 ∧ Below w.heap.size w wx) (fun _ ii _ => (intOf ii + 1).toNat)
    case atStart => exact ⟨0, rfl, by rw [st0.out], by omega, Below.refl _ _⟩
    case round =>
      obtain ⟨k, rfl, rfl, hi, hB⟩ := hrel
      clear st0
      rename World => W
      by_cases c : k < 64
      · have c' : (0 : Int) ≤ 63 - (k : Int) := by omega
        have e := Lib.hid (PR.out k c)
        have wp := PW.out k (m / 2 ^ (64 - k))
        have M1 := Lib.hid (fun W => rmul_any (powU a k (m / 2 ^ (64 - k))) (powU a k (m / 2 ^ (64 - k))) wp wp W)
        have wm := Lib.hid (mul_word wp wp)
        generalize powU a k (m / 2 ^ (64 - k)) = p at *
        obtain ⟨q, hq⟩ : ∃ q : Nat, m / 2 ^ (63 - k) = q := ⟨_, rfl⟩
        rw [show 64 - 1 - k = 63 - k by omega, hq] at e
        have en : powU a (k + 1) (m / 2 ^ (64 - (k + 1))) = powU a (k + 1) q := by rw [← hq]; congr 3; omega
        have e2 : Hid (powU a (k + 1) (m / 2 ^ (64 - (k + 1))) = if (q % 2 == 1) = true then mulV (mulV p p) a else mulV p p) := by
          unfold Hid; rw [en, e.out]; rfl
        obtain ⟨t, ht⟩ : ∃ t : Int, 63 - (k : Int) = t := ⟨_, rfl⟩
        have t0 : 0 ≤ t := by omega
        have t1 : t ≤ 63 := by omega
        have wt : IntKind.u64.wrap t = t := by rw [IntKind.wrap_u64]; omega
        have hQ : (m : Int) / 2 ^ t.toNat = (q : Int) := by
          rw [← ht, show (63 - (k : Int)).toNat = 63 - k by omega, ← hq, Int.natCast_ediv, Int.natCast_pow]; rfl
        have M2 := Lib.hid (fun W => rmul_any (mulV p p) a wm.out HA.out W)
        generalize mulV p p = s at *
        clear hq en e PR PW wp
        obtain ⟨nxt, hnxt⟩ : ∃ z, powU a (k + 1) (m / 2 ^ (64 - (k + 1))) = z := ⟨_, rfl⟩
        rw [hnxt] at e2
        have HN := Lib.hid hnxt
        clear hnxt
        have he : (63 : Int) - ((k + 1 : Nat) : Int) = t - 1 := by omega
        have hme : (t - 1 + 1).toNat < (t + 1).toNat := by omega
        by_cases o : q % 2 = 1
        · have ob : (q : Int) % 2 = 1 := by omega
          have ob2 : (q : Int).tmod 2 = 1 := by rw [Int.tmod_eq_emod_of_nonneg (by omega)]; exact ob
          have ep : Hid (mulV s a = nxt) := by
            unfold Hid; rw [e2.out, if_pos (by simpa using o)]
          rw [ep.out] at M2
          clear e2 ep o
          rw [ht]
          go_wp2_with fail
          refine (M1.out _).mono ?_
          rintro en w1 ⟨rfl, hb1⟩
          have hB1 := hB.trans (hb1.mono hB.size)
          go_wp2_with fail
          refine (M2.out _).mono ?_
          rintro en w2 ⟨rfl, hb2⟩
          have hB2 := hB1.trans (hb2.mono hB1.size)
          go_wp2
          go_roundw
          case rel => exact ⟨k + 1, by rw [he], by rw [HN.out], by omega, hB2⟩
          case measure => first | (simp [intOf]; done) | (simp [intOf]; omega)
        · have ob : (q : Int) % 2 = 0 := by omega
          have ob2 : (q : Int).tmod 2 = 0 := by rw [Int.tmod_eq_emod_of_nonneg (by omega)]; exact ob
          have ep : Hid (s = nxt) := by
            unfold Hid; rw [e2.out, if_neg (by simpa using o)]
          rw [ep.out] at M1
          clear e2 ep o M2
          rw [ht]
          go_wp2_with fail
          refine (M1.out _).mono ?_
          rintro en w1 ⟨rfl, hb1⟩
          have hB1 := hB.trans (hb1.mono hB.size)
          go_wp2
          go_roundw
          case rel => exact ⟨k + 1, by rw [he], by rw [HN.out], by omega, hB1⟩
          case measure => first | (simp [intOf]; done) | (simp [intOf]; omega)
      · obtain rfl : k = 64 := by omega
        rw [show m / 2 ^ (64 - 64) = m from Nat.div_one m]
        clear PR
        generalize powU a 64 m = p at *
        clear PW
        go_wp2_with fail
        refine (DV.out _).mono ?_
        rintro en w2 ⟨rfl, hb2⟩
        have hB2 := hB.trans (hb2.mono hB.size)
        go_wp2
        go_ret
        exact ⟨by rw [fin.out]; rfl, hB2⟩
  · obtain ⟨m, hm⟩ : ∃ m : Nat, n = (m : Int) := ⟨n.toNat, by omega⟩
    have fin : Hid (v = powU a 64 m) := by unfold Hid; rw [V.out, if_neg k4, if_neg c0, hm, Int.toNat_natCast]
    obtain ⟨z, w1⟩ : ∃ z, IntKind.u64.wrap n = z := ⟨_, rfl⟩
    have HZ : Hid (z = (m : Int)) := by unfold Hid; rw [← w1, IntKind.wrap_u64]; omega
    have PR := Lib.hid (fun i => powU_round a m 64 i)
    have st0 : Hid (powU a 0 (m / 2 ^ (64 - 0)) = 4607182418800017408) := rfl
    clear V h hk hm n0 n1
    go_enter Tryd.func23, Tryd.ntmps23
    go_wp2_with (go_at_call 39; refine (NA.out _).mono ?_; rintro e w' ⟨rfl, rfl⟩)
    go_loopw [6, 7] (fun v ii wx => ∃ (k : Nat), ii = .int .i64 (63 - (k : Int)) ∧ v = .int .u64 (powU a k (m / 2 ^ (64 - k))) ∧ k ≤ 64 ∧ Below w.heap.size w wx) (fun _ ii _ => (intOf ii + 1).toNat)
    case atStart => exact ⟨0, rfl, by rw [st0.out], by omega, Below.refl _ _⟩
    case round =>
      obtain ⟨k, rfl, rfl, hi, hB⟩ := hrel
      clear st0
      rename World => W
      by_cases c : k < 64
      · have c' : (0 : Int) ≤ 63 - (k : Int) := by omega
        have e := Lib.hid (PR.out k c)
        have wp := PW.out k (m / 2 ^ (64 - k))
        have M1 := Lib.hid (fun W => rmul_any (powU a k (m / 2 ^ (64 - k))) (powU a k (m / 2 ^ (64 - k))) wp wp W)
        have wm := Lib.hid (mul_word wp wp)
        generalize powU a k (m / 2 ^ (64 - k)) = p at *
        obtain ⟨q, hq⟩ : ∃ q : Nat, m / 2 ^ (63 - k) = q := ⟨_, rfl⟩
        rw [show 64 - 1 - k = 63 - k by omega, hq] at e
        have en : powU a (k + 1) (m / 2 ^ (64 - (k + 1))) = powU a (k + 1) q := by rw [← hq]; congr 3; omega
        have e2 : Hid (powU a (k + 1) (m / 2 ^ (64 - (k + 1))) = if (q % 2 == 1) = true then mulV (mulV p p) a else mulV p p) := by
          unfold Hid; rw [en, e.out]; rfl
        obtain ⟨t, ht⟩ : ∃ t : Int, 63 - (k : Int) = t := ⟨_, rfl⟩
        have t0 : 0 ≤ t := by omega
        have t1 : t ≤ 63 := by omega
        have wt : IntKind.u64.wrap t = t := by rw [IntKind.wrap_u64]; omega
        have hQ : z / 2 ^ t.toNat = (q : Int) := by
          rw [HZ.out, ← ht, show (63 - (k : Int)).toNat = 63 - k by omega, ← hq, Int.natCast_ediv, Int.natCast_pow]; rfl
        have M2 := Lib.hid (fun W => rmul_any (mulV p p) a wm.out HA.out W)
        generalize mulV p p = s at *
        clear hq en e PR PW wp
        obtain ⟨nxt, hnxt⟩ : ∃ z, powU a (k + 1) (m / 2 ^ (64 - (k + 1))) = z := ⟨_, rfl⟩
        rw [hnxt] at e2
        have HN := Lib.hid hnxt
        clear hnxt
        have he : (63 : Int) - ((k + 1 : Nat) : Int) = t - 1 := by omega
        have hme : (t - 1 + 1).toNat < (t + 1).toNat := by omega
        by_cases o : q % 2 = 1
        · have ob : (q : Int) % 2 = 1 := by omega
          have ob2 : (q : Int).tmod 2 = 1 := by rw [Int.tmod_eq_emod_of_nonneg (by omega)]; exact ob
          have ep : Hid (mulV s a = nxt) := by
            unfold Hid; rw [e2.out, if_pos (by simpa using o)]
          rw [ep.out] at M2
          clear e2 ep o
          rw [ht]
          go_wp2_with fail
          refine (M1.out _).mono ?_
          rintro en w1 ⟨rfl, hb1⟩
          have hB1 := hB.trans (hb1.mono hB.size)
          go_wp2_with fail
          refine (M2.out _).mono ?_
          rintro en w2 ⟨rfl, hb2⟩
          have hB2 := hB1.trans (hb2.mono hB1.size)
          go_wp2
          go_roundw
          case rel => exact ⟨k + 1, by rw [he], by rw [HN.out], by omega, hB2⟩
          case measure => first | (simp [intOf]; done) | (simp [intOf]; omega)
        · have ob : (q : Int) % 2 = 0 := by omega
          have ob2 : (q : Int).tmod 2 = 0 := by rw [Int.tmod_eq_emod_of_nonneg (by omega)]; exact ob
          have ep : Hid (s = nxt) := by
            unfold Hid; rw [e2.out, if_neg (by simpa using o)]
          rw [ep.out] at M1
          clear e2 ep o M2
          rw [ht]
          go_wp2_with fail
          refine (M1.out _).mono ?_
          rintro en w1 ⟨rfl, hb1⟩
          have hB1 := hB.trans (hb1.mono hB.size)
          go_wp2
          go_roundw
          case rel => exact ⟨k + 1, by rw [he], by rw [HN.out], by omega, hB1⟩
          case measure => first | (simp [intOf]; done) | (simp [intOf]; omega)
      · obtain rfl : k = 64 := by omega
        rw [show m / 2 ^ (64 - 64) = m from Nat.div_one m]
        clear PR
        generalize powU a 64 m = p at *
        clear PW
        go_wp2
        go_ret
        exact ⟨by rw [fin.out]; rfl, hB⟩
end Go.Proofs.YtnefacnceemklaaDoor
