/-
  The document's naturals: Big, Shl, Shr; layer 2's Shl, Shr, Root.
-/
import Derived.Test.YtogldkjhcmlneaaL6
import Derived.Test.YtogldkjhcmlneaaL7
namespace Go.Proofs.Ytogldkjhcmlneaa
open Go.RowKit Go.Shelf

set_option maxHeartbeats 400000 in
theorem big_small (A : Option Addr) (n c : Nat) (l : List Int) (w : World) (h : Sl w w.heap.size A n c l) (hn : n ≤ 256) :
    Calls Try.prog 62 #[.slice A n c] w fun e w' => e = .returned (.bool false) ∧ Below w.heap.size w w' := by
  have HT := Lib.hid (rtrim_any A n c l w h (by omega))
  have hle := Lib.hid (show ∀ m : List Int, (∀ x ∈ m, Limb x) → Norm m → natV m = natV l → m.length ≤ n from fun m h1 h2 h3 => norm_len h1 h2 (by rw [h3, ← h.len]; exact natV_lt h.lim))
  clear h
  go_enter Try.func62, Try.ntmps62
  go_wp2_with fail
  refine HT.out.mono ?_
  rintro e w1 ⟨A1, n1, c1, l1, rfl, hs, hn1, hv, fr, hb⟩
  have n1b : n1 ≤ n := by have := hle.out l1 hs.lim hn1 hv; rw [hs.len] at this; exact this
  have n1c : (n1 : Int) ≤ 256 := by omega
  clear hs hn1 hv fr hle HT
  go_wp2
  go_ret
  exact ⟨by simp; omega, hb⟩

/-- A natural and an error's number 0. -/
def NatOPost (v : Int) (w : World) (e : Ending) (w' : World) : Prop :=
  ∃ A n c l, e = .returned (.tuple #[.slice A n c, .int .i64 0]) ∧ Sl w' w'.heap.size A n c l ∧ Norm l ∧ natV l = v ∧ Fresh w.heap.size A ∧ Below w.heap.size w w'
theorem NatOPost.mk {A : Option Addr} {n c : Nat} {l : List Int} {v : Int} {w w' : World} (hs : Sl w' w'.heap.size A n c l) (hn : Norm l) (hv : natV l = v) (fr : Fresh w.heap.size A) (hb : Below w.heap.size w w') : NatOPost v w (.returned (.tuple #[.slice A n c, .int .i64 0])) w' := ⟨A, n, c, l, rfl, hs, hn, hv, fr, hb⟩

theorem shl_eq {V n : Int} {j : Nat} (hj : n / 32 = (j : Int)) : pw (32 * (j : Int)) * V * pw (n % 32) = V * pw n := by
  have e : pw n = pw (32 * (j : Int)) * pw (n % 32) := by rw [← pw_add _ _ (by omega) (by omega)]; congr 1; omega
  rw [e, Int.mul_comm _ V, Int.mul_assoc]

set_option maxHeartbeats 4000000 in
theorem rshl_any (A : Option Addr) (n c : Nat) (a : List Int) (s : Int) (w : World) (h : Sl w w.heap.size A n c a) (hn : n ≤ 200) (s0 : 0 ≤ s) (s1 : s ≤ 1700) :
    Calls Try.prog 47 #[.slice A n c, .int .i64 s] w (NatOPost (natV a * pw s) w) := by
  have HBig := Lib.hid (big_small A n c a w h (by omega))
  have HA := Lib.hid h
  have hle := Lib.hid (show ∀ m : List Int, (∀ x ∈ m, Limb x) → Norm m → natV m = natV a → m.length ≤ n from fun m h1 h2 h3 => norm_len h1 h2 (by rw [h3, ← h.len]; exact natV_lt h.lim))
  have hlt : Hid (natV a < pw (32 * (n : Int))) := by rw [← h.len]; exact natV_lt h.lim
  clear h
  go_enter Try.func47, Try.ntmps47
  go_wp2_with fail
  refine HBig.out.mono ?_
  rintro e w1 ⟨rfl, hb1⟩
  have HT := Lib.hid (rtrim_any A n c a w1 (HA.out.on hb1) (by omega))
  clear HBig HA
  go_wp2_with fail
  refine HT.out.mono ?_
  rintro e w2 ⟨A2, n2, c2, l2, rfl, hs2, hn2, hv2, fr2, hb2⟩
  have n2b : n2 ≤ n := by have := hle.out l2 hs2.lim hn2 hv2; rw [hs2.len] at this; exact this
  have hv := Lib.hid hv2
  have hB2 : Below w.heap.size w w2 := hb1.trans (hb2.mono hb1.size)
  clear hv2 HT hb1 hb2 fr2
  by_cases c0 : n2 = 0
  · have fin := Lib.hid (NatOPost.mk (v := natV a * pw s) (w := w) (Sl.nil_ w2 w2.heap.size) norm_nil (by
      have e : l2 = [] := List.eq_nil_of_length_eq_zero (by rw [hs2.len]; exact c0)
      rw [← hv.out, e]; simp [natV]) (fun _ e => by cases e) hB2)
    have cz : ((n2 : Int) == 0) = true := by simp [c0]
    have c0 := Lib.hid c0
    clear hs2 hn2
    go_wp2
    go_ret2
    exact fin.out
  · have cz : ((n2 : Int) == 0) = false := by simpa using c0
    have HL := Lib.hid (rlen_any A2 n2 c2 l2 w2 hs2 (by omega))
    have HS := Lib.hid hs2
    clear hs2 c0
    go_wp2_with fail
    refine HL.out.mono ?_
    rintro e w3 ⟨L, hL, rfl, hb3⟩
    have hL1 : L ≤ 6400 := by
      have h1 := hL.ge
      have hv0 := hv.out
      by_cases z : natV l2 = 0
      · rw [hL.z z]; decide
      · have := h1 z
        have h3 := hlt.out
        have h4 : pw L < pw (32 * (n : Int) + 1) := by rw [pw_succ _ (by omega)]; omega
        have := pw_inj_le (a := L) (by omega) h4
        omega
    have hL0 := hL.n0
    have hB3 : Below w.heap.size w w3 := hB2.trans (hb3.mono hB2.size)
    obtain ⟨j, hj⟩ : ∃ j : Nat, s / 32 = (j : Int) := ⟨(s / 32).toNat, by omega⟩
    have hj2 : j ≤ 54 := by omega
    have HS3 := Lib.hid (HS.out.on hb3)
    have hn2l : Hid (∃ b o, A2 = some ⟨b, o, none⟩ ∧ b < w3.heap.size ∧ ∀ i : Nat, (h : i < l2.length) → w3.cell? ⟨b, o + i, none⟩ = some (.int .u32 l2[i])) := by
      rcases HS3.out.rd with h0 | h0
      · rw [h0] at cz; simp at cz
      · exact h0
    obtain ⟨b, o, rfl, hbl, hcl⟩ := hn2l.out
    have HC : Hid (∀ W, Below w3.heap.size w3 W → ∀ i : Nat, (h : i < l2.length) → W.cell? ((⟨b, o, none⟩ : Addr).add i) = some (.int .u32 l2[i])) := fun W hW i hi => by
      rw [Addr.add_lit, hW.cell (p := ⟨b, o + i, none⟩) hbl]; exact hcl i hi
    have HLen := Lib.hid HS3.out.len
    have HLim := Lib.hid HS3.out.lim
    have ts : s ≤ 8192 := by omega
    have ts2 : L + s ≤ 8192 := by omega
    clear hL HL HS hb3 hB2 hn2l hcl HS3
    go_wp2_with (first
      | (at_make; refine wpList_mk rfl _ _ rfl w3.heap.size _ _ j rfl rfl (by assumption) (by assumption) (by omega) (Nat.le_refl _) ?_; intro w4 hown4 hb4 hz4)
      | (at_builtin; refine wpList_app rfl _ _ rfl w3.heap.size _ j (List.replicate j 0) hown4 rfl ⟨b, o, none⟩ n2 c2 l2 rfl HLen.out (HC.out _ hb4) (by omega) hb4.size ?_; intro v5 w5 hown5 hb5))
    have lim5 : ∀ x ∈ List.replicate j (0 : Int) ++ l2, Limb x := fun x hx => by
      rcases List.mem_append.1 hx with h | h
      · exact limbs_rep j x h
      · exact HLim.out x h
    have val5 : natV (List.replicate j (0 : Int) ++ l2) = pw (32 * (j : Int)) * natV a := by
      rw [natV_append, natV_rep, List.length_replicate, hv.out]; omega
    obtain ⟨A5, c5, rfl, hs5, _⟩ := Sl.of_own hown5 lim5
    have hB5 : Below w.heap.size w w5 := hB3.trans ((hb4.trans hb5).mono hB3.size)
    have e0 : Hid (natV (List.replicate j (0 : Int) ++ l2) = pw (32 * (j : Int)) * natV a * pw ((0 : Nat) : Int)) := by
      rw [val5]; show _ = _ * 1; omega
    clear hown4 hb4 hz4 hown5 hb5 lim5 val5 HC
    have hm0 : 0 ≤ s % 32 := by omega
    go_loopw [7, 8] (fun v kk wr => ∃ (k : Nat) (A3 : Option Addr) (n3 c3 : Nat) (l3 : List Int), kk = .int .i64 (k : Int) ∧ (k : Int) ≤ s % 32 ∧ v = .slice A3 n3 c3 ∧ n3 ≤ 300 + k ∧ Sl wr wr.heap.size A3 n3 c3 l3 ∧ Below w.heap.size w wr ∧ Hid (natV l3 = pw (32 * (j : Int)) * natV a * pw (k : Int))) (fun _ kk _ => (s % 32 - intOf kk).toNat)
    case atStart => exact ⟨0, A5, _, c5, _, rfl, by omega, rfl, by omega, hs5, hB5, e0⟩
    case round =>
      obtain ⟨k, A3, n3, c3, l3, rfl, hk, rfl, hn3, hs3, hB, hv3⟩ := hrel
      clear hs5 hB5 e0
      by_cases hlt : (k : Int) < s % 32
      · have CT := Lib.hid (rtwice_any A3 n3 c3 l3 false wr hs3 (by omega))
        have hl3 := Lib.hid (natV_lt hs3.lim)
        have hl3b := Lib.hid hs3.len
        clear hs3
        go_wp2_with fail
        refine CT.out.mono ?_
        rintro e w6 ⟨A6, n6, c6, l6, rfl, hs6, hn6, hv6, fr6, hb6⟩
        have n6b : n6 ≤ n3 + 1 := by
          rw [← hs6.len]
          refine norm_len hs6.lim hn6 ?_
          have h1 := hl3.out
          rw [hl3b.out] at h1
          have h2 := pw32 n3
          have h3 := pw_pos (32 * (n3 : Int))
          rw [hv6]
          have : b2i false = 0 := rfl
          omega
        have e6 : Hid (natV l6 = pw (32 * (j : Int)) * natV a * pw ((k + 1 : Nat) : Int)) := by
          unfold Hid
          rw [hv6, hv3.out, show ((k + 1 : Nat) : Int) = (k : Int) + 1 by omega, pw_succ _ (by omega), show b2i false = 0 from rfl, Int.mul_left_comm]; omega
        have hB6 : Below w.heap.size w w6 := hB.trans (hb6.mono hB.size)
        clear hv6 hb6 hn6 fr6 CT hB
        go_wp2
        go_roundw
        case rel => exact ⟨k + 1, A6, n6, c6, l6, by go_num, by omega, rfl, by omega, hs6, hB6, e6⟩
        case measure => simp [intOf]; omega
      · have ek : (k : Int) = s % 32 := by omega
        have HT := Lib.hid (rtrim_any A3 n3 c3 l3 wr hs3 (by omega))
        clear hs3
        go_wp2_with fail
        refine HT.out.mono ?_
        rintro e w6 ⟨A6, n6, c6, l6, rfl, hs6, hn6, hv6, fr6, hb6⟩
        have fin := Lib.hid (NatOPost.mk (v := natV a * pw s) (w := w) hs6 hn6 (by rw [hv6, hv3.out, ek, shl_eq hj]) (fr6.mono hB.size) (hB.trans (hb6.mono hB.size)))
        clear hs6 hn6 hv6 fr6 hb6 hB ek
        go_wp2
        go_ret2
        exact fin.out

theorem mul_mod_le {x n : Int} (hn : 128 ≤ n) : x * pw n % 340282366920938463463374607431768211456 = 0 := by
  have e : pw n = 340282366920938463463374607431768211456 * pw (n - 128) := by
    have := pw_add 128 (n - 128) (by decide) (by omega)
    rw [show 128 + (n - 128) = n by omega, show pw 128 = 340282366920938463463374607431768211456 from rfl] at this; exact this
  rw [e, Int.mul_left_comm]; exact Int.mul_emod_right _ _
set_option maxHeartbeats 1000000 in
theorem r2shl_any (A : Option Addr) (n c : Nat) (a : List Int) (s : Int) (w : World) (h : Sl w w.heap.size A n c a) (hn : n ≤ 8) :
    Calls Try.prog 25 #[.slice A n c, .int .i64 s] w (NatPost (natV a * pw s % 340282366920938463463374607431768211456) w) := by
  have HA := Lib.hid h
  by_cases c1 : 127 < s
  · have fin : Hid (NatPost (natV a * pw s % 340282366920938463463374607431768211456) w (.returned (.slice none 0 0)) w) :=
      NatPost.mk (Sl.nil_ _ _) norm_nil (by rw [mul_mod_le (by omega)]; rfl) (fun _ e => by cases e) (Below.refl _ _)
    have c2 : ¬ s < 0 := by omega
    clear h HA
    go_enter Try.func25, Try.ntmps25
    go_wp2
    go_ret
    exact fin.out
  · have main : Hid (∀ t : Int, 0 ≤ t → t ≤ 127 → pw t = pw s → ∀ W : World, W = w → Calls Try.prog 47 #[.slice A n c, .int .i64 t] W (NatOPost (natV a * pw s) w)) := by
      rintro t t0 t1 et W rfl
      rw [← et]
      exact rshl_any A n c a t _ HA.out (by omega) t0 (by omega)
    clear h
    have tail : Hid (∀ (A1 : Option Addr) (n1 c1 : Nat) (l1 : List Int) (w1 : World), Sl w1 w1.heap.size A1 n1 c1 l1 → n1 ≤ 1000000 → natV l1 = natV a * pw s % 340282366920938463463374607431768211456 → Below w.heap.size w w1 → Calls Try.prog 44 #[.slice A1 n1 c1] w1 (NatPost (natV a * pw s % 340282366920938463463374607431768211456) w)) :=
      fun A1 n1 c1 l1 w1 hs hn1 hv hb => (rtrim_any A1 n1 c1 l1 w1 hs (by omega)).mono fun e w' hp => hp.on hb hv
    have hlen : Hid (∀ l1 : List Int, (∀ x ∈ l1, Limb x) → Norm l1 → natV l1 = natV a * pw s → l1.length ≤ 12) := fun l1 h1 h2 h3 => by
      refine norm_len h1 h2 ?_
      have h4 := natV_lt HA.out.lim
      rw [HA.out.len] at h4
      have h5 := pw_mono (a := 32 * (n : Int)) (b := 256) (by omega) (by omega)
      have hps : pw s ≤ pw 127 := by
        rcases Int.lt_or_le s 0 with z | z
        · rw [pw_nonpos (by omega)]; decide
        · exact pw_mono z (by omega)
      have hp0 := pw_pos s
      have h6 : natV a * pw s ≤ natV a * pw 127 := Int.mul_le_mul_of_nonneg_left hps (natV_nonneg HA.out.lim)
      have h7 : (natV a + 1) * pw 127 ≤ pw 256 * pw 127 := Int.mul_le_mul_of_nonneg_right (by omega) (by decide)
      have h8 : pw 256 * pw 127 ≤ pw (32 * ((12 : Nat) : Int)) := by rw [← pw_add 256 127 (by decide) (by decide)]; exact pw_mono (by decide) (by decide)
      have h9 : (0 : Int) < pw 127 := pw_pos _
      rw [Int.add_mul] at h7
      omega
    clear HA
    by_cases c2 : s < 0
    all_goals
      go_enter Try.func25, Try.ntmps25
      go_wp2_with fail
      refine ((main.out _ (by omega) (by omega) (by first | rfl | (rw [pw_nonpos (show s ≤ 0 by omega)]; rfl))) _ rfl).mono ?_
      rintro e w1 ⟨A1, n1, c1, l1, rfl, hs1, hn1, hv1, fr1, hb1⟩
      have n1b : n1 ≤ 12 := by rw [← hs1.len]; exact hlen.out l1 hs1.lim hn1 hv1
      by_cases c4 : 4 < n1
      · have c5 : (4 : Int) < (n1 : Int) := by omega
        rcases hs1.rd with h0 | ⟨b, o, rfl, hbl, hcl⟩
        · omega
        have hs4 : Sl w1 w1.heap.size (some ⟨b, o, none⟩) 4 c1 (l1.take 4) := ⟨by rw [List.length_take, hs1.len]; omega, by have := hs1.cap; omega, hs1.max, limbs_take hs1.lim 4, (fun e => by cases e), .inr ⟨b, o, rfl, hbl, fun i hi => by
          rw [List.length_take, hs1.len] at hi
          rw [hcl i (by rw [hs1.len]; omega)]; simp⟩⟩
        have HT := Lib.hid (tail.out _ 4 c1 _ w1 hs4 (by omega) (by
          have e := natV_split l1 4 (by rw [hs1.len]; omega)
          have a0 := natV_nonneg (limbs_take hs1.lim 4)
          have a1 := natV_take_lt hs1.lim 4
          rw [show pw (32 * ((4 : Nat) : Int)) = 340282366920938463463374607431768211456 from rfl] at e a1
          rw [← hv1, e]; omega) hb1)
        have cc := hs1.cap
        clear hs1 hn1 hv1 fr1 hb1 hs4 hcl
        go_wp2_with fail
        refine HT.out.mono ?_
        intro e w2 hp
        obtain ⟨A2, n2, c2, l2, rfl, hs2, hn2, hv2, fr2, hb2⟩ := hp
        have hp := Lib.hid (NatPost.mk hs2 hn2 hv2 fr2 hb2)
        clear hs2 hn2 hv2 hb2 fr2
        go_wp2
        go_ret
        exact hp.out
      · have c5 : (n1 : Int) ≤ 4 := by omega
        have HT := Lib.hid (tail.out _ n1 c1 _ w1 hs1 (by omega) (by
          have a1 := natV_lt hs1.lim
          have a0 := natV_nonneg hs1.lim
          have := pw_mono (a := 32 * (l1.length : Int)) (b := 128) (by omega) (by rw [hs1.len]; omega)
          rw [show pw 128 = 340282366920938463463374607431768211456 from rfl] at this
          rw [← hv1]; omega) hb1)
        clear hs1 hn1 hv1 fr1 hb1
        go_wp2_with fail
        refine HT.out.mono ?_
        intro e w2 hp
        obtain ⟨A2, n2, c2, l2, rfl, hs2, hn2, hv2, fr2, hb2⟩ := hp
        have hp := Lib.hid (NatPost.mk hs2 hn2 hv2 fr2 hb2)
        clear hs2 hn2 hv2 hb2 fr2
        go_wp2
        go_ret
        exact hp.out
end Go.Proofs.Ytogldkjhcmlneaa
