/-
  The document's answers to layer 3 (tabardref3): Up, low, from.
-/
import Derived.Test.YtomeidbigofnaaaL8
import Derived.Test.YtomeidbigofnaaaL9
namespace Go.Proofs.Ytomeidbigofnaaa
open Go.RowKit Go.Shelf

/-- append of a slice of limbs, nil and empty ones too. -/
theorem wpList_appSl {w : World} {ops : Array Oper} {rest : List Oper} {o : Oper} {a : Act} {Q : Exit → Act → World → Prop} (hgd : o.guard = none) (s x : Operand)
    (ho : o.op = .call { callee := .builtin .append, args := #[s, x], argTypes := #[45, 45] })
    (base : Nat) (v : Value) (n : Nat) (l : List Int) (hown : w.ownsRow base 62 1 v n (l.map (Value.int .u32))) (hs : a.eval s = v)
    (B : Nat) (A : Option Addr) (m c : Nat) (news : List Int) (hsl : Sl w B A m c news) (hx : a.eval x = .slice A m c)
    (hb : n + m ≤ 2000000000) (hbase : base ≤ w.heap.size)
    (h : ∀ v' w', w'.ownsRow base 62 1 v' (n + m) ((l ++ news).map (Value.int .u32)) → Below base w w' → wpList Try.prog ops Q rest (a.put o.dst v') w') : wpList Try.prog ops Q (o :: rest) a w := by
  cases A with
  | none =>
    obtain ⟨rfl, rfl⟩ := hsl.nil rfl
    have e : news = [] := List.eq_nil_of_length_eq_zero hsl.len
    subst e
    obtain ⟨i0, hi, hz0, hz1, hz2⟩ := info_parts Try.info71
    refine wpList_append_own_none hgd s x 45 ho base 62 i0 1 Try.underlying45 hi v n _ hs hown hx (h v w (by simpa using hown) (Below.refl _ _))
  | some ad =>
    refine wpList_app hgd s x ho base v n l hown hs ad m c news hx hsl.len ?_ hb hbase h
    intro i hi
    rcases hsl.rd with h0 | ⟨b, o, hA, _, hc⟩
    · have := hsl.len; omega
    · injection hA with hA
      subst hA
      rw [Addr.add_lit]; exact hc i hi

set_option maxHeartbeats 4000000 in
theorem rup_any (A : Option Addr) (n c : Nat) (a : List Int) (s : Int) (w : World) (h : Sl w w.heap.size A n c a) (hn : n ≤ 10000) (s0 : 0 ≤ s) (s1 : s ≤ 320000) :
    Calls Try.prog 44 #[.slice A n c, .int .i64 s] w (NatPost (natV a * pw s) w) := by
  have HA := Lib.hid h
  obtain ⟨j, hj⟩ : ∃ j : Nat, s / 32 = (j : Int) := ⟨(s / 32).toNat, by omega⟩
  have hj2 : j ≤ 10000 := by omega
  have HL := Lib.hid h.lim
  clear h
  go_enter Try.func44, Try.ntmps44
  go_wp2_with (first
    | (at_make; refine wpList_mk rfl _ _ rfl w.heap.size _ _ j rfl rfl (by assumption) (by assumption) (by omega) (Nat.le_refl _) ?_; intro w4 hown4 hb4 hz4)
    | (at_builtin; refine wpList_appSl rfl _ _ rfl w.heap.size _ j (List.replicate j 0) hown4 rfl w.heap.size A n c a (HA.out.below hb4) rfl (by omega) hb4.size ?_; intro v5 w5 hown5 hb5))
  have lim5 : ∀ x ∈ List.replicate j (0 : Int) ++ a, Limb x := fun x hx => by
    rcases List.mem_append.1 hx with h | h
    · exact limbs_rep j x h
    · exact HL.out x h
  have val5 : natV (List.replicate j (0 : Int) ++ a) = pw (32 * (j : Int)) * natV a := by
    rw [natV_append, natV_rep, List.length_replicate]; omega
  obtain ⟨A5, c5, rfl, hs5, _⟩ := Sl.of_own hown5 lim5
  have hB5 : Below w.heap.size w w5 := hb4.trans hb5
  have e0 : Hid (natV (List.replicate j (0 : Int) ++ a) = pw (32 * (j : Int)) * natV a * pw ((0 : Nat) : Int)) := by
    rw [val5]; show _ = _ * 1; omega
  clear hown4 hb4 hz4 hown5 hb5 lim5 val5
  have hm0 : 0 ≤ s % 32 := by omega
  go_loopw [5, 6] (fun v kk wr => ∃ (k : Nat) (A3 : Option Addr) (n3 c3 : Nat) (l3 : List Int), kk = .int .i64 (k : Int) ∧ (k : Int) ≤ s % 32 ∧ v = .slice A3 n3 c3 ∧ n3 ≤ 20000 + k ∧ Sl wr wr.heap.size A3 n3 c3 l3 ∧ Below w.heap.size w wr ∧ Hid (natV l3 = pw (32 * (j : Int)) * natV a * pw (k : Int))) (fun _ kk _ => (s % 32 - intOf kk).toNat)
  case atStart => exact ⟨0, A5, _, c5, _, rfl, by omega, rfl, by omega, hs5, hB5, e0⟩
  case round =>
    obtain ⟨k, A3, n3, c3, l3, rfl, hk, rfl, hn3, hs3, hB, hv3⟩ := hrel
    clear hs5 hB5 e0
    by_cases hlt : (k : Int) < s % 32
    · have CT := Lib.hid (rtwice_any A3 n3 c3 l3 false wr hs3 (by omega))
      have hl3 := Lib.hid (natV_lt hs3.lim)
      have hl3b := Lib.hid hs3.len
      clear hs3
      go_wp2_with fail
      refine CT.out.mono ?_
      rintro e w6 ⟨A6, n6, c6, l6, rfl, hs6, hn6, hv6, fr6, hb6⟩
      have n6b : n6 ≤ n3 + 1 := by
        rw [← hs6.len]
        refine norm_len hs6.lim hn6 ?_
        have h1 := hl3.out
        rw [hl3b.out] at h1
        have h2 := pw32 n3
        have h3 := pw_pos (32 * (n3 : Int))
        rw [hv6]
        have : b2i false = 0 := rfl
        omega
      have e6 : Hid (natV l6 = pw (32 * (j : Int)) * natV a * pw ((k + 1 : Nat) : Int)) := by
        unfold Hid
        rw [hv6, hv3.out, show ((k + 1 : Nat) : Int) = (k : Int) + 1 by omega, pw_succ _ (by omega), show b2i false = 0 from rfl, Int.mul_left_comm]; omega
      have hB6 : Below w.heap.size w w6 := hB.trans (hb6.mono hB.size)
      clear hv6 hb6 hn6 fr6 CT hB
      go_wp2
      go_roundw
      case rel => exact ⟨k + 1, A6, n6, c6, l6, by go_num, by omega, rfl, by omega, hs6, hB6, e6⟩
      case measure => simp [intOf]; omega
    · have ek : (k : Int) = s % 32 := by omega
      have HT := Lib.hid (rtrim_any A3 n3 c3 l3 wr hs3 (by omega))
      clear hs3
      go_wp2_with fail
      refine HT.out.mono ?_
      rintro e w6 ⟨A6, n6, c6, l6, rfl, hs6, hn6, hv6, fr6, hb6⟩
      have fin := Lib.hid (NatPost.mk (v := natV a * pw s) (w := w) hs6 hn6 (by rw [hv6, hv3.out, ek, shl_eq hj]) (fr6.mono hB.size) (hB.trans (hb6.mono hB.size)))
      clear hs6 hn6 hv6 fr6 hb6 hB ek
      go_wp2
      go_ret
      exact fin.out

theorem mod_up {V i n : Int} (hi : 0 ≤ i) (hn : i ≤ n) (h : V % pw n = 0) : V % pw i = 0 := by
  have e : pw n = pw i * pw (n - i) := by rw [← pw_add _ _ hi (by omega)]; congr 1; omega
  rw [← Int.mul_ediv_add_emod V (pw n), h, e, Int.mul_assoc, Int.add_zero]; exact Int.mul_emod_right _ _
set_option maxHeartbeats 1000000 in
theorem rlow_any (A : Option Addr) (n c : Nat) (a : List Int) (s : Int) (w : World) (h : Sl w w.heap.size A n c a) (hn : n ≤ 1000000) (s0 : 0 ≤ s) (s1 : s ≤ 4611686018427387904) :
    Calls Try.prog 62 #[.slice A n c, .int .i64 s] w fun e w' => e = .returned (.bool (decide (natV a % pw s ≠ 0))) ∧ w = w' := by
  have HA := Lib.hid h
  have V0 := Lib.hid (natV_nonneg h.lim)
  have V1 : Hid (natV a < pw (32 * (n : Int))) := by rw [← h.len]; exact natV_lt h.lim
  have bn : (n : Int) ≤ 1000000 := by omega
  obtain ⟨r, hr⟩ : ∃ r, decide (natV a % pw s ≠ 0) = r := ⟨_, rfl⟩
  rw [hr]
  have HR := Lib.hid hr
  clear h hr
  go_enter Try.func62, Try.ntmps62
  go_wp2
  go_loopw [5] (fun i wr => ∃ k : Nat, i = .int .i64 (k : Int) ∧ (k : Int) ≤ s ∧ (k : Int) ≤ 32 * (n : Int) ∧ Hid (natV a % pw (k : Int) = 0) ∧ w = wr) (fun i _ => (s - intOf i).toNat)
  case atStart => exact ⟨0, rfl, by omega, by omega, by unfold Hid; rw [show pw ((0 : Nat) : Int) = 1 from rfl, Int.emod_one], rfl⟩
  case round =>
    obtain ⟨k, rfl, hk, hk2, hz, rfl⟩ := hrel
    by_cases c1 : (k : Int) < s ∧ (k : Int) < 32 * (n : Int)
    · obtain ⟨c1, c2⟩ := c1
      have CB := Lib.hid (bit_any A n c a (k : Int) w HA.out (by omega) (by omega))
      have hm := Lib.hid (mod_succ (natV a) (k : Int) (by omega))
      rcases Bool.eq_false_or_eq_true (bitV (natV a) (k : Int)) with hb | hb
      · have fin : Hid (r = true) := by
          have hb1 : natV a / pw (k : Int) % 2 = 1 := by unfold bitV at hb; exact of_decide_eq_true hb
          have hne : natV a % pw s ≠ 0 := fun e => by
            have := mod_up (V := natV a) (i := (k : Int) + 1) (by omega) (by omega) e
            rw [hm.out, hz.out, hb1] at this
            have := pw_pos (k : Int); omega
          rw [← HR.out]; exact decide_eq_true hne
        rw [hb] at CB
        clear hb hm
        go_wp2_with fail
        refine CB.out.mono ?_
        rintro e w' ⟨rfl, rfl⟩
        go_wp2
        go_ret
        exact ⟨by rw [fin.out]; rfl, rfl⟩
      · have hz2 : Hid (natV a % pw ((k + 1 : Nat) : Int) = 0) := by
          have hb0 : natV a / pw (k : Int) % 2 = 0 := by unfold bitV at hb; have := of_decide_eq_false hb; omega
          unfold Hid
          rw [show ((k + 1 : Nat) : Int) = (k : Int) + 1 by omega, hm.out, hz.out, hb0]; omega
        rw [hb] at CB
        clear hb hm
        go_wp2_with fail
        refine CB.out.mono ?_
        rintro e w' ⟨rfl, rfl⟩
        go_wp2
        go_roundw
        case rel => exact ⟨k + 1, by go_num, by omega, by omega, hz2, by first | trivial | rfl⟩
        case measure => simp [intOf]; omega
    · have fin : Hid (r = false) := by
        have he : natV a % pw s = 0 := by
          by_cases c2 : (k : Int) < s
          · have ek : (k : Int) = 32 * (n : Int) := by omega
            have h1 := hz.out
            rw [ek, Int.emod_eq_of_lt V0.out V1.out] at h1
            rw [h1]; exact Int.zero_emod _
          · have ek : (k : Int) = s := by omega
            rw [← ek]; exact hz.out
        unfold Hid; rw [← HR.out, he]; rfl
      by_cases c2 : (k : Int) < s
      · have c3 : 32 * (n : Int) ≤ (k : Int) := by omega
        clear c1
        go_wp2
        go_ret
        exact ⟨by rw [fin.out]; rfl, rfl⟩
      · clear c1
        go_wp2
        go_ret
        exact ⟨by rw [fin.out]; rfl, rfl⟩

/-- The first bits from the n-th on. -/
theorem from_step {q P : Int} (hP : 0 < P) : q % (2 * P) = 2 * (q / 2 % P) + q % 2 := by
  have a := Int.mul_ediv_add_emod (q / 2) P
  have r0 := Int.emod_nonneg (q / 2) (show P ≠ 0 by omega)
  have r1 := Int.emod_lt_of_pos (q / 2) hP
  generalize q / 2 % P = r at *
  generalize q / 2 / P = t at *
  have e : q = (2 * r + q % 2) + 2 * P * t := by rw [Int.mul_assoc]; omega
  rw [e, Int.add_mul_emod_self_left, Int.emod_eq_of_lt (by omega) (by omega)]; omega
set_option maxHeartbeats 1000000 in
theorem rfrom_any (A : Option Addr) (n c : Nat) (a : List Int) (s : Int) (w : World) (h : Sl w w.heap.size A n c a) (s0 : 0 ≤ s) (s1 : s ≤ 4611686018427387904) :
    Calls Try.prog 61 #[.slice A n c, .int .i64 s] w fun e w' => e = .returned (.int .u64 (natV a / pw s % 18446744073709551616)) ∧ w = w' := by
  have HA := Lib.hid h
  clear h
  obtain ⟨R, hR⟩ : ∃ R, natV a / pw s % 18446744073709551616 = R := ⟨_, rfl⟩
  rw [hR]
  have HR := Lib.hid hR
  clear hR
  go_enter Try.func61, Try.ntmps61
  go_wp2
  go_loopw [5, 6] (fun v i wr => ∃ k x : Int, i = .int .i64 (63 - k) ∧ 0 ≤ k ∧ k ≤ 64 ∧ v = .int .u64 x ∧ 0 ≤ x ∧ x < 18446744073709551616 ∧ Hid (x = natV a / pw (s + (64 - k)) % pw k) ∧ w = wr) (fun _ i _ => (intOf i + 1).toNat)
  case atStart => exact ⟨0, 0, by go_num, by decide, by decide, rfl, by decide, by decide, by unfold Hid; rw [show pw 0 = 1 from rfl, Int.emod_one], rfl⟩
  case round =>
    obtain ⟨k, x, rfl, k0, k1, rfl, x0, x1, hx, rfl⟩ := hrel
    by_cases hk : k < 64
    · have CB := Lib.hid (bit_any A n c a (s + (63 - k)) w HA.out (by omega) (by omega))
      have hxb : x < 9223372036854775808 := by
        have h1 := Int.emod_lt_of_pos (natV a / pw (s + (64 - k))) (pw_pos k)
        rw [← hx.out] at h1
        have h2 := pw_mono (a := k) (b := 63) k0 (by omega)
        rw [show pw 63 = 9223372036854775808 from rfl] at h2
        omega
      have hq : natV a / pw (s + (64 - k)) = natV a / pw (s + (63 - k)) / 2 := by
        have e : pw (s + (64 - k)) = pw (s + (63 - k)) * 2 := by rw [show s + (64 - k) = s + (63 - k) + 1 by omega, pw_succ _ (by omega), Int.mul_comm]
        rw [e, Int.ediv_ediv_of_nonneg (Int.le_of_lt (pw_pos _))]
      have hs := from_step (q := natV a / pw (s + (63 - k))) (pw_pos k)
      rw [← pw_succ k k0, ← hq, ← hx.out] at hs
      have HS := Lib.hid hs
      obtain ⟨j, hj⟩ : ∃ j, 63 - k = j := ⟨_, rfl⟩
      have hjk : k = 63 - j := by omega
      subst hjk
      rw [show 63 - (63 - j) = j by omega] at *
      have j0 : 0 ≤ j := by omega
      have j1 : j ≤ 63 := by omega
      rcases Bool.eq_false_or_eq_true (bitV (natV a) (s + j)) with hb | hb
      · have hn : Hid (2 * x + 1 = natV a / pw (s + (64 - (63 - (j - 1)))) % pw (63 - (j - 1))) := by
          have hb1 : natV a / pw (s + j) % 2 = 1 := by unfold bitV at hb; exact of_decide_eq_true hb
          unfold Hid
          rw [show 64 - (63 - (j - 1)) = j by omega, show 63 - (j - 1) = 63 - j + 1 by omega, HS.out, hb1]
        rw [hb] at CB
        clear hb hs hq hj
        go_wp2_with fail
        refine CB.out.mono ?_
        rintro e w' ⟨rfl, rfl⟩
        go_wp2
        go_roundw
        case rel => exact ⟨63 - (j - 1), 2 * x + 1, by rw [show 63 - (63 - (j - 1)) = j - 1 by omega], by omega, by omega, rfl, by omega, by omega, hn, by first | trivial | rfl⟩
        case measure => simp [intOf]; omega
      · have hn : Hid (2 * x = natV a / pw (s + (64 - (63 - (j - 1)))) % pw (63 - (j - 1))) := by
          have hb0 : natV a / pw (s + j) % 2 = 0 := by unfold bitV at hb; have := of_decide_eq_false hb; omega
          unfold Hid
          rw [show 64 - (63 - (j - 1)) = j by omega, show 63 - (j - 1) = 63 - j + 1 by omega, HS.out, hb0]; omega
        rw [hb] at CB
        clear hb hs hq hj
        go_wp2_with fail
        refine CB.out.mono ?_
        rintro e w' ⟨rfl, rfl⟩
        go_wp2
        go_roundw
        case rel => exact ⟨63 - (j - 1), 2 * x, by rw [show 63 - (63 - (j - 1)) = j - 1 by omega], by omega, by omega, rfl, by omega, by omega, hn, by first | trivial | rfl⟩
        case measure => simp [intOf]; omega
    · have ek : k = 64 := by omega
      subst ek
      have fin : Hid (x = R) := by
        unfold Hid
        rw [hx.out, ← HR.out, show s + (64 - 64) = s by omega]; rfl
      clear HA
      go_wp2
      go_ret
      exact ⟨by rw [← fin.out]; rfl, rfl⟩
end Go.Proofs.Ytomeidbigofnaaa
