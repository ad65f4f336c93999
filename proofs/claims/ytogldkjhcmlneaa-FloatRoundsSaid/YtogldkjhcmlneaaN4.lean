/-
  nat.core, nat.Len and float.Round of any list of at most 30000 limbs, nil and empty ones too; []uint32 as an argument.
-/
import Derived.Test.YtogldkjhcmlneaaD7
import Derived.ProofKit
import Derived.Carry
import Derived.ChangeSlices
namespace Go.Proofs.Ytogldkjhcmlneaa
open Go.RowKit Go.Shelf Go.ChangeShapes

set_option maxHeartbeats 1000000 in
theorem core_l (l : List Int) (b o cap : Nat) (w : World) (hc : Cells w b o l) (hcap : l.length ≤ cap) (hn9 : (cap : Int) ≤ 9223372036854775807) (_hn : l.length ≤ 30000) :
    Calls Try.prog 65 #[.slice (some ⟨b, o, none⟩) l.length cap] w fun e w' => ∃ k : Nat, CoreAt l k ∧ e = .returned (.slice (some ⟨b, o, none⟩) k cap) ∧ w = w' := by
  have HC := Lib.hid hc.2
  clear hc
  go_enter Try.func65, Try.ntmps65
  go_wp2
  go_loopw [3] (fun n wr => ∃ k : Nat, k ≤ l.length ∧ n = .int .i64 (k : Int) ∧ Hid (∀ i : Nat, k ≤ i → (hi : i < l.length) → l[i] = 0) ∧ w = wr) (fun n _ => (intOf n).toNat)
  case atStart => exact ⟨l.length, Nat.le_refl _, rfl, fun i h1 h2 => by omega, rfl⟩
  case round =>
    obtain ⟨k, hk, rfl, hz, rfl⟩ := hrel
    have hkc : (k : Int) ≤ (cap : Int) := by omega
    cases k with
    | zero =>
      have hk0 : (0 : Int) ≤ (cap : Int) := by omega
      have fin : Hid (CoreAt l 0) := ⟨by omega, hz.out, .inl rfl⟩
      clear HC hz hkc hk
      go_wp2
      go_ret
      exact ⟨0, fin.out, rfl, rfl⟩
    | succ j =>
      have hj : j < l.length := by omega
      have cell : w.cell? ⟨b, o + j, none⟩ = some (.int .u32 l[j]) := HC.out j hj
      have jl : (j : Int) < (l.length : Int) := by omega
      have hj0 : (0 : Int) < (j : Int) + 1 := by omega
      have ej : ((j + 1 : Nat) : Int) = (j : Int) + 1 := by omega
      have hkc2 : (j : Int) + 1 ≤ (cap : Int) := by omega
      by_cases hx : l[j] = 0
      · have hz2 : Hid (∀ i : Nat, j ≤ i → (hi : i < l.length) → l[i] = 0) := fun i h1 h2 => by
          rcases Nat.eq_or_lt_of_le h1 with e | e
          · subst e; exact hx
          · exact hz.out i (by omega) h2
        rw [hx] at cell
        clear hx HC hz
        go_wp2
        go_roundw
        case rel => exact ⟨j, by omega, by go_num, hz2, by first | trivial | rfl⟩
        case measure => simp [intOf]
      · have fin : Hid (CoreAt l (j + 1)) := ⟨by omega, hz.out, .inr ⟨j, hj, rfl, hx⟩⟩
        have hxb : (l[j] == 0) = false := by simpa using hx
        generalize l[j] = x at *
        clear HC hz
        go_wp2
        go_ret
        exact ⟨j + 1, fin.out, rfl, rfl⟩

set_option maxHeartbeats 1000000 in
theorem natlen_l (l : List Int) (b o cap : Nat) (w : World) (hc : Cells w b o l) (hl : ∀ x ∈ l, Limb x) (hcap : l.length ≤ cap) (hn9 : (cap : Int) ≤ 9223372036854775807) (hn : l.length ≤ 30000) :
    Calls Try.prog 60 #[.slice (some ⟨b, o, none⟩) l.length cap] w fun e w' => ∃ n : Nat, Bits (natV l) n ∧ (n : Int) ≤ 32 * (l.length : Int) ∧ e = .returned (.int .i64 (n : Int)) ∧ w = w' := by
  have CO := Lib.hid (core_l l b o cap w hc hcap hn9 hn)
  have HC := Lib.hid hc.2
  have HL := Lib.hid hl
  clear hc hl
  go_enter Try.func60, Try.ntmps60
  go_wp2_with fail
  refine (CO.out).mono ?_
  rintro en w1 ⟨k, hk, rfl, rfl⟩
  clear CO
  rcases hk.last with rfl | ⟨j, hj, rfl, hx⟩
  · have fin : Hid (Bits (natV l) 0) := by
      have e := natV_core hk.zeros
      rw [List.take_zero] at e
      rw [← e]
      exact ⟨by decide, by decide, fun h => absurd rfl h⟩
    clear hk HC HL
    go_wp2
    go_ret
    exact ⟨0, fin.out, by omega, rfl, rfl⟩
  · have cell := HC.out j hj
    have hxl := HL.out l[j] (List.getElem_mem hj)
    obtain ⟨y, hy⟩ := Int.eq_ofNat_of_zero_le hxl.1
    obtain ⟨s1, s2, s3⟩ := bitLen_bd y (by have := hxl.2; omega)
    have s2 := s2 (by omega)
    have s32 : Lib.bitLen y ≤ 32 := by
      rcases Nat.lt_or_ge 32 (Lib.bitLen y) with c | c
      · have := Nat.pow_le_pow_right (show 0 < 2 by decide) (show 33 ≤ Lib.bitLen y by omega)
        have e33 : (2 : Nat) ^ 33 = 8589934592 := rfl
        have := hxl.2
        omega
      · exact c
    have fin : Hid (Bits (natV l) (32 * j + Lib.bitLen y)) := by
      have e := natV_core hk.zeros
      rw [← e]
      exact natV_bits HL.out hj hx (by rw [hy]; exact_mod_cast s1) (by rw [hy]; exact_mod_cast s2)
    have L : Hid (∀ w, Calls Try.prog 66 #[.int .u32 l[j]] w fun e w' => e = .returned (.int .i64 (Lib.bitLen y : Int)) ∧ w = w') := fun w => by
      have := Try.bits_Len32 l[j] w hxl.1 (by have := hxl.2; omega)
      rw [hy, Int.toNat_natCast] at this
      rw [hy]
      exact this.mono fun _ _ h => ⟨h.1, h.2.symm⟩
    have jl : (j : Int) < (l.length : Int) := by omega
    have hcap' : (l.length : Int) ≤ (cap : Int) := by omega
    have ej : ((j + 1 : Nat) : Int) = (j : Int) + 1 := by omega
    have jn : ((j : Int) + 1 == 0) = false := by simp; omega
    have s4 : (Lib.bitLen y : Int) ≤ 32 := by omega
    have fin2 : Hid (∀ z : Int, z = 32 * (j : Int) + (Lib.bitLen y : Int) → Ending.returned (Value.int .i64 z) = .returned (.int .i64 ((32 * j + Lib.bitLen y : Nat) : Int))) := fun z hz => by
      rw [hz]; congr 2
    have fin3 : ((32 * j + Lib.bitLen y : Nat) : Int) ≤ 32 * (l.length : Int) := by omega
    generalize Lib.bitLen y = n at *
    generalize l[j] = x at *
    clear hk hx HC HL hxl hy s1 s2 s3 s32
    go_wp2_with (go_at_call 66; refine (L.out _).mono ?_; rintro en w2 ⟨rfl, rfl⟩)
    go_ret
    exact ⟨_, fin.out, fin3, fin2.out _ (by omega), rfl⟩
set_option maxRecDepth 100000 in
set_option maxHeartbeats 4000000 in
theorem round_l (neg : Bool) (l : List Int) (b o cap : Nat) (e : Int) (more : Bool) (w : World) (hc : Cells w b o l) (hl : ∀ x ∈ l, Limb x) (hcap : l.length ≤ cap) (hn9 : (cap : Int) ≤ 9223372036854775807) (hn : l.length ≤ 30000) (he0 : -9223372036854775808 ≤ e) (he1 : e ≤ 9223372036854775807) :
    Calls Try.prog 37 #[.bool neg, .slice (some ⟨b, o, none⟩) l.length cap, .int .i64 e, .bool more] w (WordPost (joinV neg (natV l) e (blen (natV l)) more) w) := by
  have LN := Lib.hid (fun w hc => natlen_l l b o cap w hc hl hcap hn9 hn)
  have HCC := Lib.hid hc
  have HL := Lib.hid hl
  clear hc hl
  go_enter Try.func37, Try.ntmps37
  go_wp2_with fail
  refine (LN.out _ HCC.out).mono ?_
  rintro en w1 ⟨n, hb, hn2, rfl, rfl⟩
  have hv0 := hb.v0
  obtain ⟨over, hov⟩ : ∃ z, max ((n : Int) - 64) 0 = z := ⟨_, rfl⟩
  have ov0 : 0 ≤ over := by omega
  have ov1 : over ≤ 960000 := by omega
  have hfit : natV l / pw over < 18446744073709551616 := by
    refine Int.ediv_lt_of_lt_mul (pw_pos _) ?_
    have h1 := hb.lt
    have := pow_lt (show 0 ≤ (n : Int) by omega) (show (n : Int) ≤ 64 + over by omega)
    rw [pw_add 64 over (by decide) ov0, pw_64] at this
    omega
  have fin : Hid (∀ (top : Int) (lost : Bool), TopAt (natV l) over top lost → top = natV l / pw over ∧ nearI neg top over e (Lib.bitLen top.toNat : Int) (more || lost) = joinV neg (natV l) e (blen (natV l)) more) := by
    intro top lost hT
    rw [← joinV_len hb, hT.t, ← hov]
    refine ⟨rfl, near_join hv0 hb.lt hb.ge ?_⟩
    rw [hov, hT.l]; simp
  have ltop : ∀ k : Nat, natV (l.take k) / pw over < 18446744073709551616 := fun k => by
    have := Int.ediv_le_ediv (pw_pos over) (natV_take_le HL.out k)
    omega
  have LT := Lib.hid ltop
  have HB0 : Hid (0 ≤ natV l) := hv0
  have HF := Lib.hid hfit
  generalize joinV neg (natV l) e (blen (natV l)) more = r at *
  clear ltop hfit hb hv0 hn2 LN
  go_wp2_with fail
  go_loopw [10, 11, 12, 13, 14, 21] (fun vt vl _ _ _ vi wr => ∃ (k : Nat) (top : Int) (lost : Bool), k ≤ l.length ∧ vi = .int .i64 (k : Int) ∧ vt = .int .u64 top ∧ vl = .bool lost ∧ Hid (TopAt (natV (l.take k)) over top lost) ∧ w = wr) (fun _ _ _ _ _ i _ => l.length - (intOf i).toNat)
  case atStart => exact ⟨0, 0, false, by omega, rfl, rfl, rfl, ⟨by rw [List.take_zero]; simp [natV], by rw [List.take_zero]; simp [natV]⟩, rfl⟩
  case round =>
    obtain ⟨k, top, lost, hk, rfl, rfl, rfl, hT, rfl⟩ := hrel
    by_cases hlt : k < l.length
    · have cell : w.cell? ⟨b, o + k, none⟩ = some (.int .u32 l[k]) := HCC.out.2 k hlt
      have hx := HL.out l[k] (List.getElem_mem hlt)
      have hs := natV_take_succ hlt
      have h0 := natV_nonneg (limbs_take HL.out k)
      have h1 := natV_lt (limbs_take HL.out k)
      rw [List.length_take, Nat.min_eq_left (by omega)] at h1
      have hf := LT.out (k + 1)
      rw [hs] at hf
      have klt : (k : Int) < (l.length : Int) := by omega
      have kk : (k : Int) ≤ 30000 := by omega
      have k0 : (0 : Int) ≤ (k : Int) := by omega
      by_cases c1 : 0 ≤ (k : Int) * 32 - over
      · obtain ⟨t1, t2⟩ := top_high (x := l[k]) h0 h1 hx ov0 (by omega) hT.out hf
        rw [← hs] at t1 t2
        rw [show 32 * (k : Int) - over = (k : Int) * 32 - over by omega] at t1
        have T2 := Lib.hid t2
        obtain ⟨x0, x1⟩ := hx
        generalize natV (List.take (k + 1) l) / pw over = top2 at *
        generalize l[k] = x at *
        clear hs h0 h1 hf hT t2 LT HF HB0 fin
        go_wp2_with fail
        go_roundw
        case rel => exact ⟨k + 1, top2, lost, by omega, by go_num, by first | trivial | rfl, by first | trivial | rfl, T2, by first | trivial | rfl⟩
        case measure => simp [intOf]; omega
      · by_cases c2 : -32 < (k : Int) * 32 - over
        · obtain ⟨t1, t2⟩ := top_mid (x := l[k]) h0 h1 hx (by omega) (by omega) hT.out
          rw [← hs] at t1 t2
          rw [show 32 * (k : Int) - over = (k : Int) * 32 - over by omega] at t1 t2
          rw [Nat.min_eq_left (by omega)] at t1 t2
          have ew : ∀ z : Int, IntKind.u32.wrap z = z % 4294967296 := fun _ => rfl
          rw [ew] at t2
          have T2 := Lib.hid t2
          obtain ⟨x0, x1⟩ := hx
          generalize natV (List.take (k + 1) l) / pw over = top2 at *
          generalize l[k] = x at *
          clear hs h0 h1 hf hT t2 LT HF HB0 fin
          have m0 : 0 ≤ -((k : Int) * 32 - over) := by omega
          have m1 : 0 ≤ 32 + ((k : Int) * 32 - over) := by omega
          cases lost
          · obtain ⟨q, hq⟩ : ∃ z, x * 2 ^ (32 + ((k : Int) * 32 - over)).toNat % 4294967296 = z := ⟨_, rfl⟩
            rw [hq] at T2
            rcases Bool.eq_false_or_eq_true (q != 0) with hz | hz
            all_goals
              rw [hz] at T2
              go_wp2_with fail
              go_roundw
              case rel => exact ⟨k + 1, top2, _, by omega, by go_num, by first | trivial | rfl, rfl, T2, by first | trivial | rfl⟩
              case measure => simp [intOf]; omega
          · rw [Bool.true_or] at T2
            go_wp2_with fail
            go_roundw
            case rel => exact ⟨k + 1, top2, _, by omega, by go_num, by first | trivial | rfl, rfl, T2, by first | trivial | rfl⟩
            case measure => simp [intOf]; omega
        · have t2 := top_low (x := l[k]) h0 h1 hx (by omega) hT.out
          rw [← hs] at t2
          have T2 := Lib.hid t2
          obtain ⟨x0, x1⟩ := hx
          generalize l[k] = x at *
          clear hs h0 h1 hf hT t2 LT HF HB0 fin
          cases lost
          · rcases Bool.eq_false_or_eq_true (x != 0) with hz | hz
            all_goals
              rw [hz] at T2
              go_wp2_with fail
              go_roundw
              case rel => exact ⟨k + 1, top, _, by omega, by go_num, by first | trivial | rfl, rfl, T2, by first | trivial | rfl⟩
              case measure => simp [intOf]; omega
          · rw [Bool.true_or] at T2
            go_wp2_with fail
            go_roundw
            case rel => exact ⟨k + 1, top, _, by omega, by go_num, by first | trivial | rfl, rfl, T2, by first | trivial | rfl⟩
            case measure => simp [intOf]; omega
    · have hkl : k = l.length := by omega
      subst hkl
      rw [List.take_length] at hT
      obtain ⟨f1, f2⟩ := fin.out top lost hT.out
      have wt : Word top := ⟨by rw [f1]; exact Int.ediv_nonneg HB0.out (Int.le_of_lt (pw_pos _)), by rw [f1]; exact HF.out⟩
      have NR : Hid (∀ (m : Bool), m = (more || lost) → ∀ w, Calls Try.prog 56 #[.bool neg, .int .u64 top, .int .i64 over, .int .i64 e, .bool m] w (WordPost r w)) := fun m hm w => by
        rw [← f2, hm]; exact nearest_any neg top over e _ _ wt ov0 (by omega) he0 he1 rfl w
      clear fin f1 f2 hT HB0 HF LT HL HCC wt hk hlt
      cases more <;> cases lost
      all_goals
        go_wp2_with (go_at_call 56; refine (NR.out _ rfl _).mono ?_; rintro en w3 ⟨rfl, hb3⟩)
        go_ret
        exact ⟨rfl, hb3⟩

theorem Try.cells71 : Try.prog.cellsOf 71 = 1 := by kernel_rfl
/-- An argument of limbs is such a slice. -/
theorem sl_of_trod {H : Type} {enc : TypeId × Value → H} {W : World} {A : Option Addr} {n c : Nat} {d : DataW H} {p : List MemPlace} (h : DataW.Trod enc Try.prog W 0 (fun _ => true) true 26 (.slice A n c) d p) : ∃ l, Sl W W.heap.size A n c l := by
  obtain ⟨fuel, hf⟩ := h
  rcases open_ints Try.underlying26 Try.underlying71 Try.cells71 hf with ⟨hcs, hx⟩ | ⟨a, len', cap', zs, hcs, _, hl, hm, hz, hx, hcell, hwz⟩
  · simp [Value.cells] at hcs
    obtain ⟨rfl, rfl, rfl⟩ := hcs
    exact ⟨[], Sl.nil_ _ _⟩
  · simp [Value.cells] at hcs
    obtain ⟨rfl, rfl, rfl⟩ := hcs
    simp only [if_true] at hz
    refine ⟨zs.take n, by rw [List.length_take]; omega, hl, hm, fun x hx => ?_, (fun e => by cases e), ?_⟩
    · have := hwz x (List.mem_of_mem_take hx)
      simp [Lit.wf, IntKind.min, IntKind.max, IntKind.signed, IntKind.bits] at this
      exact ⟨by omega, by omega⟩
    · by_cases c0 : n = 0
      · exact .inl c0
      · have h0 := hcell 0 (by omega)
        rw [show a.add 0 = a from rfl] at h0
        have hs := World.cell?_spot h0
        have hb := World.block_lt_of_cell? _ _ h0
        obtain ⟨b, o, sp⟩ := a
        simp at hs
        subst hs
        refine .inr ⟨b, o, rfl, hb, fun i hi => ?_⟩
        rw [List.length_take] at hi
        have := hcell i (by omega)
        rw [Addr.add_lit] at this
        rw [this]
        simp [List.getD, show i < zs.length by omega]

theorem core_nil (A : Option Addr) (c : Nat) (w : World) (hc : (c : Int) ≤ 9223372036854775807) (hA : A = none → c = 0) :
    Calls Try.prog 65 #[.slice A 0 c] w fun e w' => e = .returned (.slice A 0 c) ∧ w = w' := by
  have c0 : (0 : Int) ≤ (c : Int) := by omega
  rcases A with _ | ad
  · obtain rfl := hA rfl
    clear hA
    go_enter Try.func65, Try.ntmps65
    go_wp2
    refine wp_loop_rounds 1 ?_
    rw [rounds_succ]
    go_wp2
    go_ret
    exact ⟨rfl, rfl⟩
  · clear hA
    go_enter Try.func65, Try.ntmps65
    go_wp2
    refine wp_loop_rounds 1 ?_
    rw [rounds_succ]
    go_wp2
    go_ret
    exact ⟨rfl, rfl⟩
theorem natlen_nil (A : Option Addr) (c : Nat) (w : World) (hc : (c : Int) ≤ 9223372036854775807) (hA : A = none → c = 0) :
    Calls Try.prog 60 #[.slice A 0 c] w fun e w' => e = .returned (.int .i64 0) ∧ w = w' := by
  have K := Lib.hid (core_nil A c w hc hA)
  clear hA
  go_enter Try.func60, Try.ntmps60
  go_wp2_with fail
  refine K.out.mono ?_
  rintro e w' ⟨rfl, rfl⟩
  go_wp2
  go_ret
  exact ⟨rfl, rfl⟩
set_option maxHeartbeats 1000000 in
theorem round_nil (neg : Bool) (A : Option Addr) (c : Nat) (e : Int) (more : Bool) (w : World) (hc : (c : Int) ≤ 9223372036854775807) (hA : A = none → c = 0) (he0 : -9223372036854775808 ≤ e) (he1 : e ≤ 9223372036854775807) :
    Calls Try.prog 37 #[.bool neg, .slice A 0 c, .int .i64 e, .bool more] w (WordPost (signI neg) w) := by
  have K := Lib.hid (natlen_nil A c w hc hA)
  have NR : Hid (∀ (m : Bool), ∀ w, Calls Try.prog 56 #[.bool neg, .int .u64 0, .int .i64 0, .int .i64 e, .bool m] w (WordPost (signI neg) w)) := fun m w => by
    have h := nearest_any neg 0 0 e (Lib.bitLen (Int.toNat 0) : Int) m ⟨by decide, by decide⟩ (by decide) (by decide) he0 he1 rfl w
    have e0 : nearI neg 0 0 e (Lib.bitLen (Int.toNat 0) : Int) m = signI neg := by unfold nearI; rw [if_pos (.inl rfl)]
    rw [e0] at h; exact h
  clear hA
  cases more
  all_goals
    go_enter Try.func37, Try.ntmps37
    go_wp2_with fail
    refine K.out.mono ?_
    rintro en w' ⟨rfl, rfl⟩
    go_wp2_with fail
    refine wp_loop_rounds 1 ?_
    rw [rounds_succ]
    go_wp2_with (go_at_call 56; refine (NR.out _ _).mono ?_; rintro en w3 ⟨rfl, hb3⟩)
    go_ret
    exact ⟨rfl, hb3⟩
/-- float.Round, of any slice of limbs. -/
theorem round_sl (neg : Bool) (A : Option Addr) (n c : Nat) (l : List Int) (e : Int) (more : Bool) (w : World) (h : Sl w w.heap.size A n c l) (hn : n ≤ 30000) (he0 : -9223372036854775808 ≤ e) (he1 : e ≤ 9223372036854775807) :
    Calls Try.prog 37 #[.bool neg, .slice A n c, .int .i64 e, .bool more] w (WordPost (joinV neg (natV l) e (blen (natV l)) more) w) := by
  have hmax := h.max
  unfold maxLen at hmax
  rcases h.rd with rfl | ⟨b, o, rfl, hb, hc⟩
  · have e1 : l = [] := List.eq_nil_of_length_eq_zero h.len
    subst e1
    have e2 : joinV neg (natV []) e (blen (natV [])) more = signI neg := by unfold joinV; rw [if_pos (.inl rfl)]
    rw [e2]
    exact round_nil neg A c e more w (by omega) (fun hA => (h.nil hA).2) he0 he1
  · have := round_l neg l b o c e more w ⟨hb, fun i hi => hc i hi⟩ h.lim (by rw [h.len]; exact h.cap) (by omega) (by rw [h.len]; exact hn) he0 he1
    rw [h.len] at this
    exact this
end Go.Proofs.Ytogldkjhcmlneaa
