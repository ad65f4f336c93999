/-
  The walk of Round: the number nearest to a list of limbs.
-/
import Derived.Test.YtogldkjhcmlneaaN1
namespace Go.Proofs.Ytogldkjhcmlneaa
open Go.RowKit Go.Shelf

theorem blen_eq {v : Int} {n : Nat} (h : Bits v n) : v = 0 ∨ blen v = n := by
  by_cases hz : v = 0
  · exact .inl hz
  · exact .inr (blen_of hz h)
theorem joinV_len {neg more : Bool} {v e : Int} {n : Nat} (h : Bits v n) : joinV neg v e n more = joinV neg v e (blen v) more := by
  rcases blen_eq h with h | h
  · unfold joinV; rw [if_pos (.inl h), if_pos (.inl h)]
  · rw [h]

set_option maxRecDepth 100000 in
set_option maxHeartbeats 4000000 in
theorem round_any (neg : Bool) (l : List Int) (b o cap : Nat) (e : Int) (more : Bool) (w : World) (hc : Cells w b o l) (hl : ∀ x ∈ l, Limb x) (hcap : l.length ≤ cap) (hn : cap ≤ 30000) (he0 : -9223372036854775808 ≤ e) (he1 : e ≤ 9223372036854775807) :
    Calls Try.prog 37 #[.bool neg, .slice (some ⟨b, o, none⟩) l.length cap, .int .i64 e, .bool more] w (WordPost (joinV neg (natV l) e (blen (natV l)) more) w) := by
  have LN := Lib.hid (fun w hc => natlen_any l b o cap w hc hl hcap (by omega))
  have HCC := Lib.hid hc
  have HL := Lib.hid hl
  clear hc hl
  go_enter Try.func37, Try.ntmps37
  go_wp2_with fail
  refine (LN.out _ HCC.out).mono ?_
  rintro en w1 ⟨n, hb, hn2, rfl, rfl⟩
  have hv0 := hb.v0
  obtain ⟨over, hov⟩ : ∃ z, max ((n : Int) - 64) 0 = z := ⟨_, rfl⟩
  have ov0 : 0 ≤ over := by omega
  have ov1 : over ≤ 960000 := by omega
  have hfit : natV l / pw over < 18446744073709551616 := by
    refine Int.ediv_lt_of_lt_mul (pw_pos _) ?_
    have h1 := hb.lt
    have := pow_lt (show 0 ≤ (n : Int) by omega) (show (n : Int) ≤ 64 + over by omega)
    rw [pw_add 64 over (by decide) ov0, pw_64] at this
    omega
  have fin : Hid (∀ (top : Int) (lost : Bool), TopAt (natV l) over top lost → top = natV l / pw over ∧ nearI neg top over e (Lib.bitLen top.toNat : Int) (more || lost) = joinV neg (natV l) e (blen (natV l)) more) := by
    intro top lost hT
    rw [← joinV_len hb, hT.t, ← hov]
    refine ⟨rfl, near_join hv0 hb.lt hb.ge ?_⟩
    rw [hov, hT.l]; simp
  have ltop : ∀ k : Nat, natV (l.take k) / pw over < 18446744073709551616 := fun k => by
    have := Int.ediv_le_ediv (pw_pos over) (natV_take_le HL.out k)
    omega
  have LT := Lib.hid ltop
  have HB0 : Hid (0 ≤ natV l) := hv0
  have HF := Lib.hid hfit
  generalize joinV neg (natV l) e (blen (natV l)) more = r at *
  clear ltop hfit hb hv0 hn2 LN
  go_wp2_with fail
  go_loopw [10, 11, 12, 13, 14, 21] (fun vt vl _ _ _ vi wr => ∃ (k : Nat) (top : Int) (lost : Bool), k ≤ l.length ∧ vi = .int .i64 (k : Int) ∧ vt = .int .u64 top ∧ vl = .bool lost ∧ Hid (TopAt (natV (l.take k)) over top lost) ∧ w = wr) (fun _ _ _ _ _ i _ => l.length - (intOf i).toNat)
  case atStart => exact ⟨0, 0, false, by omega, rfl, rfl, rfl, ⟨by rw [List.take_zero]; simp [natV], by rw [List.take_zero]; simp [natV]⟩, rfl⟩
  case round =>
    obtain ⟨k, top, lost, hk, rfl, rfl, rfl, hT, rfl⟩ := hrel
    by_cases hlt : k < l.length
    · have cell : w.cell? ⟨b, o + k, none⟩ = some (.int .u32 l[k]) := HCC.out.2 k hlt
      have hx := HL.out l[k] (List.getElem_mem hlt)
      have hs := natV_take_succ hlt
      have h0 := natV_nonneg (limbs_take HL.out k)
      have h1 := natV_lt (limbs_take HL.out k)
      rw [List.length_take, Nat.min_eq_left (by omega)] at h1
      have hf := LT.out (k + 1)
      rw [hs] at hf
      have klt : (k : Int) < (l.length : Int) := by omega
      have kk : (k : Int) ≤ 30000 := by omega
      have k0 : (0 : Int) ≤ (k : Int) := by omega
      by_cases c1 : 0 ≤ (k : Int) * 32 - over
      · obtain ⟨t1, t2⟩ := top_high (x := l[k]) h0 h1 hx ov0 (by omega) hT.out hf
        rw [← hs] at t1 t2
        rw [show 32 * (k : Int) - over = (k : Int) * 32 - over by omega] at t1
        have T2 := Lib.hid t2
        obtain ⟨x0, x1⟩ := hx
        generalize natV (List.take (k + 1) l) / pw over = top2 at *
        generalize l[k] = x at *
        clear hs h0 h1 hf hT t2 LT HF HB0 fin
        go_wp2_with fail
        go_roundw
        case rel => exact ⟨k + 1, top2, lost, by omega, by go_num, by first | trivial | rfl, by first | trivial | rfl, T2, by first | trivial | rfl⟩
        case measure => simp [intOf]; omega
      · by_cases c2 : -32 < (k : Int) * 32 - over
        · obtain ⟨t1, t2⟩ := top_mid (x := l[k]) h0 h1 hx (by omega) (by omega) hT.out
          rw [← hs] at t1 t2
          rw [show 32 * (k : Int) - over = (k : Int) * 32 - over by omega] at t1 t2
          rw [Nat.min_eq_left (by omega)] at t1 t2
          have ew : ∀ z : Int, IntKind.u32.wrap z = z % 4294967296 := fun _ => rfl
          rw [ew] at t2
          have T2 := Lib.hid t2
          obtain ⟨x0, x1⟩ := hx
          generalize natV (List.take (k + 1) l) / pw over = top2 at *
          generalize l[k] = x at *
          clear hs h0 h1 hf hT t2 LT HF HB0 fin
          have m0 : 0 ≤ -((k : Int) * 32 - over) := by omega
          have m1 : 0 ≤ 32 + ((k : Int) * 32 - over) := by omega
          cases lost
          · obtain ⟨q, hq⟩ : ∃ z, x * 2 ^ (32 + ((k : Int) * 32 - over)).toNat % 4294967296 = z := ⟨_, rfl⟩
            rw [hq] at T2
            rcases Bool.eq_false_or_eq_true (q != 0) with hz | hz
            all_goals
              rw [hz] at T2
              go_wp2_with fail
              go_roundw
              case rel => exact ⟨k + 1, top2, _, by omega, by go_num, by first | trivial | rfl, rfl, T2, by first | trivial | rfl⟩
              case measure => simp [intOf]; omega
          · rw [Bool.true_or] at T2
            go_wp2_with fail
            go_roundw
            case rel => exact ⟨k + 1, top2, _, by omega, by go_num, by first | trivial | rfl, rfl, T2, by first | trivial | rfl⟩
            case measure => simp [intOf]; omega
        · have t2 := top_low (x := l[k]) h0 h1 hx (by omega) hT.out
          rw [← hs] at t2
          have T2 := Lib.hid t2
          obtain ⟨x0, x1⟩ := hx
          generalize l[k] = x at *
          clear hs h0 h1 hf hT t2 LT HF HB0 fin
          cases lost
          · rcases Bool.eq_false_or_eq_true (x != 0) with hz | hz
            all_goals
              rw [hz] at T2
              go_wp2_with fail
              go_roundw
              case rel => exact ⟨k + 1, top, _, by omega, by go_num, by first | trivial | rfl, rfl, T2, by first | trivial | rfl⟩
              case measure => simp [intOf]; omega
          · rw [Bool.true_or] at T2
            go_wp2_with fail
            go_roundw
            case rel => exact ⟨k + 1, top, _, by omega, by go_num, by first | trivial | rfl, rfl, T2, by first | trivial | rfl⟩
            case measure => simp [intOf]; omega
    · have hkl : k = l.length := by omega
      subst hkl
      rw [List.take_length] at hT
      obtain ⟨f1, f2⟩ := fin.out top lost hT.out
      have wt : Word top := ⟨by rw [f1]; exact Int.ediv_nonneg HB0.out (Int.le_of_lt (pw_pos _)), by rw [f1]; exact HF.out⟩
      have NR : Hid (∀ (m : Bool), m = (more || lost) → ∀ w, Calls Try.prog 56 #[.bool neg, .int .u64 top, .int .i64 over, .int .i64 e, .bool m] w (WordPost r w)) := fun m hm w => by
        rw [← f2, hm]; exact nearest_any neg top over e _ _ wt ov0 (by omega) he0 he1 rfl w
      clear fin f1 f2 hT HB0 HF LT HL HCC wt hk hlt
      cases more <;> cases lost
      all_goals
        go_wp2_with (go_at_call 56; refine (NR.out _ rfl _).mono ?_; rintro en w3 ⟨rfl, hb3⟩)
        go_ret
        exact ⟨rfl, hb3⟩
end Go.Proofs.Ytogldkjhcmlneaa
