/-
  root.Sqrt, root.Mod, root.Power: walked.
-/
import Derived.Test.YtnefacnceemklaaDoorK4
import Derived.Test.YtnefacnceemklaaDoorX5
import Derived.WalkMore
import Derived.Test.YtnefacnceemklaaDoorX2
import Derived.Test.YtnefacnceemklaaDoorK7
/-
  root.Sqrt: walked.
-/
namespace Go.Proofs.YtnefacnceemklaaDoor
open Go.RowKit Go.Shelf

/-- The root, cut off. -/
def isq : Nat → Nat → Nat
  | 0, _ => 0
  | f + 1, n => if (2 * isq f (n / 4) + 1) * (2 * isq f (n / 4) + 1) ≤ n then 2 * isq f (n / 4) + 1 else 2 * isq f (n / 4)
theorem isq_root : ∀ (f n : Nat), n < 4 ^ f → isq f n * isq f n ≤ n ∧ n < (isq f n + 1) * (isq f n + 1)
  | 0, n, h => by
    have : n = 0 := by simpa using h
    subst this; decide
  | f + 1, n, h => by
    obtain ⟨a, b⟩ := isq_root f (n / 4) (by rw [Nat.pow_succ] at h; omega)
    unfold isq
    generalize isq f (n / 4) = r at *
    have e1 : (2 * r) * (2 * r) = 4 * (r * r) := by rw [Nat.mul_mul_mul_comm]
    have e2 : (2 * r + 1 + 1) * (2 * r + 1 + 1) = 4 * ((r + 1) * (r + 1)) := by
      rw [show 2 * r + 1 + 1 = 2 * (r + 1) by omega, Nat.mul_mul_mul_comm]
    split
    · rename_i c
      exact ⟨c, by rw [e2]; omega⟩
    · rename_i c
      exact ⟨by rw [e1]; omega, by omega⟩
def sqR (v : Int) : Int := (isq 128 v.toNat : Int)
theorem sqR_root {v : Int} (h0 : 0 ≤ v) (h1 : v < pw 256) : IsRoot (sqR v) v := by
  obtain ⟨n, rfl⟩ := Int.eq_ofNat_of_zero_le h0
  have e : pw 256 = ((4 ^ 128 : Nat) : Int) := by rw [show (4 : Nat) ^ 128 = 2 ^ 256 by rw [show (4 : Nat) = 2 ^ 2 by decide, ← Nat.pow_mul]]; rfl
  rw [e] at h1
  obtain ⟨a, b⟩ := isq_root 128 n (by exact_mod_cast h1)
  unfold sqR
  rw [Int.toNat_natCast]
  exact ⟨Int.natCast_nonneg _, by exact_mod_cast a, by exact_mod_cast b⟩

def sqK (a : Int) : Int := if powI a % 2 = 0 then 128 else 129
def sqF (a : Int) : Int := rootV (mantI a * pw (sqK a)) (powI a - sqK a) (sqR (mantI a * pw (sqK a)))
def sqrtV (a : Int) : Int := if kindI a = 4 then 9221120237041090560 else if kindI a = 0 ∨ a = 9218868437227405312 then a else if 9223372036854775808 < a then 9221120237041090560 else sqF a

theorem i64_and_one (x : Int) : bits .and .i64 x 1 = x % 2 := by
  show IntKind.i64.wrap ((BitVec.ofInt 64 x &&& BitVec.ofInt 64 1).toNat : Int) = _
  rw [BitVec.toNat_and, show (BitVec.ofInt 64 1).toNat = 1 by decide, Nat.and_one_is_mod, BitVec.toNat_ofInt, IntKind.wrap_i64]
  omega
/-- The finite root, as the code makes it. -/
theorem sqrt_fin {a : Int} (h : Word a) (hf : expI a ≠ 2047) (hz : absI a ≠ 0) :
    ∃ m e up N r : Int, Word m ∧ 0 ≤ up ∧ up ≤ 75 ∧ 75 - (e - 75) % 2 = up ∧ -2000 ≤ e ∧ e ≤ 2000 ∧ m * pw up = N ∧ 0 ≤ N ∧ N < 340282366920938463463374607431768211456 ∧ IsRoot r N ∧ (e - up) % 2 = 0 ∧
    (∀ W, Calls Tryd.prog 35 #[.int .u64 a] W fun en w' => en = .returned (.tuple #[.int .u64 m, .int .i64 e]) ∧ W = w') ∧
    joinV false r ((e - up) / 2) (blen r) (r * r != N) = sqF a := by
  obtain ⟨a1, a2, a3, a4, a5, a6, a7⟩ := spr_bd h hf hz
  obtain ⟨m0, m1, p0, p1⟩ := mant_bd a h
  obtain ⟨up, hup⟩ : ∃ z, 75 - (powI a - sprK a - 75) % 2 = z := ⟨_, rfl⟩
  have u0 : 74 ≤ up ∧ up ≤ 75 := by omega
  have N1 : mantI a * pw (sprK a) * pw up < 340282366920938463463374607431768211456 := by
    have p := pw_mono (a := up) (b := 75) (by omega) u0.2
    have q := Int.mul_le_mul_of_nonneg_left p (show 0 ≤ mantI a * pw (sprK a) by omega)
    rw [show pw 75 = 37778931862957161709568 from rfl] at q
    omega
  have N0 : 85070591730234615865843651857942052864 ≤ mantI a * pw (sprK a) * pw up := by
    have p := pw_mono (a := 74) (b := up) (by omega) u0.1
    have q := Int.mul_le_mul_of_nonneg_left p (show 0 ≤ mantI a * pw (sprK a) by omega)
    rw [show pw 74 = 18889465931478580854784 from rfl] at q
    omega
  obtain ⟨d, hd⟩ : ∃ d, sqK a - sprK a - up = 2 * d := ⟨(sqK a - sprK a - up) / 2, by unfold sqK; split <;> omega⟩
  have kb : 128 ≤ sqK a := by unfold sqK; split <;> decide
  have d0 : 0 ≤ d := by omega
  have ev : (powI a - sprK a - up) % 2 = 0 := by omega
  have hr := sqR_root (v := mantI a * pw (sprK a) * pw up) (by omega) (by
    have := pw_mono (a := 128) (b := 256) (by decide) (by decide)
    rw [show pw 128 = 340282366920938463463374607431768211456 from rfl] at this; omega)
  have eN : mantI a * pw (sprK a) * pw up * (pw d * pw d) = mantI a * pw (sqK a) := by
    rw [Int.mul_assoc, Int.mul_assoc, ← pw_add d d d0 d0, ← pw_add up (d + d) (by omega) (by omega), ← pw_add _ _ a1 (by omega)]
    congr 2; omega
  have hs := sqR_root (v := mantI a * pw (sqK a)) (Int.mul_nonneg m0 (Int.le_of_lt (pw_pos _))) (by
    have kk : sqK a ≤ 129 := by unfold sqK; split <;> decide
    have p := pw_mono (a := sqK a) (b := 129) (by omega) kk
    have q := Int.mul_le_mul (show mantI a ≤ pw 53 by rw [show pw 53 = 9007199254740992 from rfl]; omega) p (Int.le_of_lt (pw_pos _)) (Int.le_of_lt (pw_pos _))
    rw [← pw_add _ _ (by decide) (by decide)] at q
    have := pw_mono (a := 182) (b := 255) (by decide) (by decide)
    have := pw_half 256 (by decide)
    have := pw_pos 255
    rw [show (53 : Int) + 129 = 182 by decide] at q
    rw [show (256 : Int) - 1 = 255 by decide] at *
    omega)
  refine ⟨_, _, up, _, sqR (mantI a * pw (sprK a) * pw up), ⟨by omega, by omega⟩, by omega, by omega, hup, by omega, by omega, rfl, by omega, N1, hr, ev, fun W => spread_any a h hf hz W, ?_⟩
  have t := root_same (e := powI a - sprK a - up) d0 (by omega) ev hr (by rw [eN]; exact hs)
  rw [eN, show powI a - sprK a - up - 2 * d = powI a - sqK a by omega] at t
  exact t
theorem tdiv_even {x : Int} (h : x % 2 = 0) : x.tdiv 2 = x / 2 := by
  obtain ⟨k, rfl⟩ : ∃ k, x = 2 * k := ⟨x / 2, by omega⟩
  rw [Int.mul_tdiv_cancel_left _ (by decide), Int.mul_ediv_cancel_left _ (by decide)]
end Go.Proofs.YtnefacnceemklaaDoor

/-
  root.Sqrt: walked.
-/
namespace Go.Proofs.YtnefacnceemklaaDoor
open Go.RowKit Go.Shelf

set_option maxRecDepth 100000 in
set_option maxHeartbeats 4000000 in
theorem sqrt5_any (a : Int) (h : Word a) (w : World) : Calls Tryd.prog 16 #[.int .u64 a] w (WordPost (sqrtV a) w) := by
  obtain ⟨k, hk⟩ : ∃ z, kindI a = z := ⟨_, rfl⟩
  have bk := kind_bd a
  rw [hk] at bk
  have KA := Lib.hid (fun W => kind_vars a k h hk W)
  have V : Hid (sqrtV a = if k = 4 then 9221120237041090560 else if k = 0 ∨ a = 9218868437227405312 then a else if 9223372036854775808 < a then 9221120237041090560 else sqF a) := by unfold Hid sqrtV; rw [hk]
  have F : Hid (k = 1 ∨ k = 2 → _) := fun c : k = 1 ∨ k = 2 => sqrt_fin h (fin_of_kind h (by omega)) (nz_of_kind h (by omega) (by omega))
  have K3 : Hid (k = 3 → a = 9218868437227405312 ∨ 9223372036854775808 < a) := fun c => by
    have z := h.1; have z1 := h.2
    rw [← hk] at c; unfold kindI absI at c; (repeat' split at c) <;> omega
  have h0 := h.1; have h1 := h.2
  generalize sqrtV a = v at *
  generalize sqF a = f at *
  clear h hk
  by_cases k4 : k = 4
  · have tk : (k == 4) = true := by simpa using k4
    have fin : Hid (v = 9221120237041090560) := by unfold Hid; rw [V.out, if_pos k4]
    clear V F K3
    go_enter Tryd.func16, Tryd.ntmps16
    go_wp2_with (go_at_call 34; refine (KA.out _).mono ?_; rintro e w' ⟨rfl, rfl⟩)
    go_ret
    exact ⟨by rw [fin.out]; rfl, Below.refl _ _⟩
  have tk : (k == 4) = false := by simpa using k4
  by_cases k0 : k = 0
  · have tk0 : (k == 0) = true := by simpa using k0
    have fin : Hid (v = a) := by unfold Hid; rw [V.out, if_neg k4, if_pos (.inl k0)]
    clear V F K3
    go_enter Tryd.func16, Tryd.ntmps16
    go_wp2_with (go_at_call 34; refine (KA.out _).mono ?_; rintro e w' ⟨rfl, rfl⟩)
    go_ret
    exact ⟨by rw [fin.out]; rfl, Below.refl _ _⟩
  have tk0 : (k == 0) = false := by simpa using k0
  by_cases ai : a = 9218868437227405312
  · subst ai
    have fin : Hid (v = 9218868437227405312) := by unfold Hid; rw [V.out, if_neg k4, if_pos (.inr rfl)]
    clear V F K3
    go_enter Tryd.func16, Tryd.ntmps16
    go_wp2_with (go_at_call 34; refine (KA.out _).mono ?_; rintro e w' ⟨rfl, rfl⟩)
    go_ret
    exact ⟨by rw [fin.out]; rfl, Below.refl _ _⟩
  have ta : (a == 9218868437227405312) = false := by simpa using ai
  by_cases an : 9223372036854775808 < a
  · have fin : Hid (v = 9221120237041090560) := by unfold Hid; rw [V.out, if_neg k4, if_neg (by omega), if_pos an]
    clear V F K3
    go_enter Tryd.func16, Tryd.ntmps16
    go_wp2_with (go_at_call 34; refine (KA.out _).mono ?_; rintro e w' ⟨rfl, rfl⟩)
    go_ret
    exact ⟨by rw [fin.out]; rfl, Below.refl _ _⟩
  have kk : k = 1 ∨ k = 2 := by
    rcases Int.lt_trichotomy k 3 with c | c | c
    · omega
    · have := K3.out c; omega
    · omega
  obtain ⟨m, e, up, N, r, wm, u0, u1, hup, e0, e1, hN, N0, N1, hr, ev, SP, hv⟩ := F.out kk
  have fin : Hid (v = f) := by unfold Hid; rw [V.out, if_neg k4, if_neg (by omega), if_neg an]
  obtain ⟨u2, hu2⟩ : ∃ z, (e - 75) % 2 = z := ⟨_, rfl⟩
  rw [hu2] at hup
  subst hup
  have u20 : 0 ≤ u2 := by omega
  have u21 : u2 ≤ 1 := by omega
  have HB : bits .and .i64 (e - 128 + 53) 1 = u2 := by rw [i64_and_one, ← hu2]; omega
  clear hu2
  obtain ⟨up, hup⟩ : ∃ z, 75 - u2 = z := ⟨_, rfl⟩
  rw [hup] at u0 u1 hN ev hv
  clear V F K3 kk
  have SP := Lib.hid SP
  have SH := Lib.hid (fun W => shl_any 0 m up ⟨by decide, by decide⟩ wm (by omega) W)
  have hv := Lib.hid hv
  have vm : val 0 m = m := by unfold val; omega
  have HS : Hid (val 0 m * pw up % 340282366920938463463374607431768211456 = N) := by unfold Hid; rw [vm, hN]; exact Int.emod_eq_of_lt N0 N1
  have TD := tdiv_even ev
  have hr := Lib.hid hr
  clear wm vm
  go_enter Tryd.func16, Tryd.ntmps16
  go_wp2_with (go_at_call 34; refine (KA.out _).mono ?_; rintro e w' ⟨rfl, rfl⟩)
  refine (SP.out _).mono ?_
  rintro en w1 ⟨rfl, rfl⟩
  go_wp2_with fail
  refine (SH.out _).mono ?_
  rintro en w1 ⟨x, y, rfl, wx, wy, hxy, hb1⟩
  rw [HS.out] at hxy
  have RT := Lib.hid (fun W => root_any x y wx wy W)
  rw [hxy] at RT
  clear wx wy SH
  go_wp2_with fail
  refine (RT.out _).mono ?_
  rintro en w2 ⟨q, o, rfl, wq, q0, q1, qo, hb2⟩
  have er : q = r := isRoot_unique ⟨wq.1, q0, q1⟩ hr.out
  have eo : (!o) = (r * r != N) := by
    rw [← er]
    cases o
    · have : q * q ≠ N := fun h => by have := qo.2 h; cases this
      simp [this]
    · have : q * q = N := qo.1 rfl
      simp [this]
  have hB2 := hb1.trans (hb2.mono hb1.size)
  subst er
  have CJ := Lib.hid (fun W => JoinPost.word (neg := false) (more := !o) (x := 0) (y := q) (e := (e - up) / 2) (r := f) ⟨by decide, by decide⟩ wq (by omega) (by omega) (by rw [show val 0 q = q by unfold val; omega, eo]; exact hv.out) W)
  clear RT wq q0 q1 qo hb1 hb2 hxy eo hv hr
  cases o
  all_goals
    go_wp2_with fail
    refine (CJ.out _).mono ?_
    rintro en w3 ⟨rfl, hb3⟩
    have hB3 := hB2.trans (hb3.mono hB2.size)
    go_wp2
    go_ret
    exact ⟨by rw [fin.out]; rfl, hB3⟩
end Go.Proofs.YtnefacnceemklaaDoor

/-
  root.remainder, root.Mod: walked.
-/
namespace Go.Proofs.YtnefacnceemklaaDoor
open Go.RowKit Go.Shelf

theorem dbl_mod {M b r : Int} (hr : M % b = r) : (M * 2) % b = (2 * r) % b := by
  rw [← hr, Int.mul_comm, Int.mul_emod 2 M, Int.mul_emod 2 (M % b), Int.emod_emod_of_dvd _ (Int.dvd_refl b)]
/-- i doublings. -/
structure RemAt (m b : Int) (i : Nat) (r : Int) : Prop where
  r0 : 0 ≤ r
  r1 : r < b
  v : m * pw (i : Int) % b = r
theorem rem_next {m b r : Int} {i : Nat} (h : RemAt m b i r) : (2 * r < b → RemAt m b (i + 1) (2 * r)) ∧ (b ≤ 2 * r → RemAt m b (i + 1) (2 * r - b)) := by
  obtain ⟨h0, h1, h2⟩ := h
  have hb : 0 < b := by omega
  have e : m * pw ((i + 1 : Nat) : Int) % b = (2 * r) % b := by
    rw [show ((i + 1 : Nat) : Int) = (i : Int) + 1 by omega, pw_add _ _ (by omega) (by decide), ← Int.mul_assoc]
    exact dbl_mod h2
  refine ⟨fun c => ⟨by omega, c, by rw [e]; exact Int.emod_eq_of_lt (by omega) c⟩, fun c => ⟨by omega, by omega, ?_⟩⟩
  have k := Int.add_emod_right (2 * r - b) b
  rw [Int.sub_add_cancel] at k
  rw [e, k]
  exact Int.emod_eq_of_lt (by omega) (by omega)
theorem rem_zero {m b : Int} {i n : Nat} (h : RemAt m b i 0) (hn : i ≤ n) : m * pw (n : Int) % b = 0 := by
  have e : pw (n : Int) = pw (i : Int) * pw ((n : Int) - i) := by rw [← pw_add _ _ (by omega) (by omega)]; congr 1; omega
  rw [e, ← Int.mul_assoc, Int.mul_emod, h.v, Int.zero_mul]; exact Int.zero_emod _
set_option maxRecDepth 100000 in
set_option maxHeartbeats 4000000 in
theorem remainder_any (m b : Int) (n : Nat) (m0 : 0 ≤ m) (m1 : m < 9007199254740992) (b0 : 0 < b) (b1 : b < 9007199254740992) (hn : n ≤ 5000) (w : World) :
    Calls Tryd.prog 57 #[.int .u64 m, .int .u64 b, .int .i64 (n : Int)] w fun e w' => e = .returned (.int .u64 (m * pw (n : Int) % b)) ∧ w = w' := by
  have st0 : Hid (RemAt m b 0 (m % b)) := ⟨Int.emod_nonneg _ (by omega), Int.emod_lt_of_pos _ b0, by rw [show pw ((0 : Nat) : Int) = 1 from rfl, Int.mul_one]⟩
  have hb : (b == 0) = false := by simp; omega
  have nx := Lib.hid (fun i r => @rem_next m b r i)
  have rz := Lib.hid (fun i => @rem_zero m b i n)
  obtain ⟨V, hV⟩ : ∃ V, m * pw (n : Int) % b = V := ⟨_, rfl⟩
  have HV := Lib.hid hV
  rw [hV] at rz ⊢
  clear hV
  go_enter Tryd.func57, Tryd.ntmps57
  go_wp2
  go_step3
  go_wp2
  go_step3
  go_wp2
  go_loopw [7, 12] (fun v ii wr => ∃ i : Nat, ∃ r : Int, ii = .int .i64 (i : Int) ∧ v = .int .u64 r ∧ i ≤ n ∧ RemAt m b i r ∧ w = wr) (fun _ ii _ => n - (intOf ii).toNat)
  case atStart => exact ⟨0, _, rfl, rfl, by omega, st0.out, rfl⟩
  case round =>
    obtain ⟨i, r, rfl, rfl, hi, hR, rfl⟩ := hrel
    obtain ⟨r0, r1, rv⟩ := hR
    by_cases c : i < n
    · have c' : (i : Int) < (n : Int) := by omega
      obtain ⟨n1, n2⟩ := nx.out i r ⟨r0, r1, rv⟩
      have N1 := Lib.hid n1; have N2 := Lib.hid n2
      have RZ := Lib.hid (fun (z : r = 0) => rz.out i (by rw [← z]; exact ⟨r0, r1, rv⟩) (by omega))
      clear n1 n2 nx rz rv st0
      by_cases z : r = 0
      · have fin := Lib.hid (RZ.out z)
        subst z
        clear N1 N2 RZ
        go_wp2
        rw [Exit.noGoto_ret]
        go_ret
        exact ⟨by rw [fin.out]; rfl, rfl⟩
      · obtain ⟨s, hs⟩ : ∃ s, r * 2 = s := ⟨_, rfl⟩
        have sb : s < 18014398509481984 := by omega
        have s0 : 0 ≤ s := by omega
        have ws : IntKind.u64.wrap s = s := by rw [IntKind.wrap_u64]; omega
        have sz : (s == 0) = false := by simp; omega
        have e2 : 2 * r = s := by omega
        rw [e2] at N1 N2
        clear e2 RZ
        by_cases g : b ≤ s
        · have N := Lib.hid (N2.out g)
          clear N1 N2
          go_wp2
          go_roundw
          case rel => exact ⟨i + 1, _, by go_num, rfl, by omega, N.out, by first | trivial | rfl⟩
          case measure => simp [intOf]; omega
        · have g2 : ¬ b ≤ s := g
          have N := Lib.hid (N1.out (by omega))
          clear N1 N2
          go_wp2
          go_roundw
          case rel => exact ⟨i + 1, _, by go_num, rfl, by omega, N.out, by first | trivial | rfl⟩
          case measure => simp [intOf]; omega
    · obtain rfl : i = n := by omega
      have fin : Hid (r = V) := by unfold Hid; rw [← HV.out]; exact rv.symm
      have hge : ¬ (i : Int) < (i : Int) := by omega
      clear nx rz rv st0
      go_wp2
      go_ret
      exact ⟨by rw [← fin.out]; rfl, rfl⟩
/-- What Mod answers. -/
def modV (a b : Int) : Int := if kindI a = 4 ∨ kindI b = 4 ∨ kindI a = 3 ∨ kindI b = 0 then 9221120237041090560 else if kindI a = 0 ∨ kindI b = 3 then a else rndI (negB a) (XI a % XI b) (-1074)
theorem mod_units {a b : Int} (h1 : Word a) (h2 : Word b) (hz : mantI b ≠ 0) (he : powI b ≤ powI a) : rndI (negB a) (mantI a * pw (powI a - powI b) % mantI b) (powI b) = rndI (negB a) (XI a % XI b) (-1074) := by
  obtain ⟨a0, a1, p0, p1⟩ := mant_bd a h1
  obtain ⟨b0, b1, q0, q1⟩ := mant_bd b h2
  have p := pw_pos (powI b + 1074)
  have e : XI a % XI b = mantI a * pw (powI a - powI b) % mantI b * pw (powI b + 1074) := by
    unfold XI
    have k : pw (powI a + 1074) = pw (powI a - powI b) * pw (powI b + 1074) := by rw [← pw_add _ _ (by omega) (by omega)]; congr 1; omega
    rw [k, ← Int.mul_assoc, Int.mul_comm _ (pw (powI b + 1074)), Int.mul_comm (mantI b) (pw (powI b + 1074)), Int.mul_emod_mul_of_pos _ _ p, Int.mul_comm]
  rw [e, rnd_scale _ (-1074) (Int.emod_nonneg _ (by omega)) (by omega)]
  congr 1; omega
theorem mod_less {a b : Int} (h1 : Word a) (h2 : Word b) (f1 : expI a ≠ 2047) (f2 : expI b ≠ 2047) (h : absI a < absI b) : rndI (negB a) (XI a % XI b) (-1074) = a := by
  rw [Int.emod_eq_of_lt (XI_nonneg a h1) (XI_lt h1 h2 f1 f2 h), rnd_neg, rnd_self a h1 f1]
  exact sign_abs a h1
end Go.Proofs.YtnefacnceemklaaDoor

/-
  root.Mod: walked.
-/
namespace Go.Proofs.YtnefacnceemklaaDoor
open Go.RowKit Go.Shelf

set_option maxRecDepth 100000 in
set_option maxHeartbeats 8000000 in
theorem mod5_any (a b : Int) (h1 : Word a) (h2 : Word b) (w : World) : Calls Tryd.prog 20 #[.int .u64 a, .int .u64 b] w (WordPost (modV a b) w) := by
  obtain ⟨k, hk⟩ : ∃ z, kindI a = z := ⟨_, rfl⟩
  obtain ⟨j, hj⟩ : ∃ z, kindI b = z := ⟨_, rfl⟩
  have bk := kind_bd a
  have bj := kind_bd b
  rw [hk] at bk; rw [hj] at bj
  have KA := Lib.hid (fun W => kind_vars a k h1 hk W)
  have KB := Lib.hid (fun W => kind_vars b j h2 hj W)
  have V : Hid (modV a b = if k = 4 ∨ j = 4 ∨ k = 3 ∨ j = 0 then 9221120237041090560 else if k = 0 ∨ j = 3 then a else rndI (negB a) (XI a % XI b) (-1074)) := by unfold Hid modV; rw [hk, hj]
  generalize modV a b = v at *
  by_cases n : k = 4 ∨ j = 4 ∨ k = 3 ∨ j = 0
  · have fin : Hid (v = 9221120237041090560) := by unfold Hid; rw [V.out, if_pos n]
    clear V h1 h2 hk hj bk bj
    by_cases k4 : k = 4
    · have t1 : (k == 4) = true := by simpa using k4
      go_enter Tryd.func20, Tryd.ntmps20
      go_wp2_with (first | (go_at_call_of 34 (Value.int IntKind.u64 a); refine (KA.out _).mono ?_; rintro e w' ⟨rfl, rfl⟩) | (go_at_call_of 34 (Value.int IntKind.u64 b); refine (KB.out _).mono ?_; rintro e w' ⟨rfl, rfl⟩))
      go_ret
      exact ⟨by rw [fin.out]; rfl, Below.refl _ _⟩
    have t1 : (k == 4) = false := by simpa using k4
    by_cases j4 : j = 4
    · have t2 : (j == 4) = true := by simpa using j4
      go_enter Tryd.func20, Tryd.ntmps20
      go_wp2_with (first | (go_at_call_of 34 (Value.int IntKind.u64 a); refine (KA.out _).mono ?_; rintro e w' ⟨rfl, rfl⟩) | (go_at_call_of 34 (Value.int IntKind.u64 b); refine (KB.out _).mono ?_; rintro e w' ⟨rfl, rfl⟩))
      go_ret
      exact ⟨by rw [fin.out]; rfl, Below.refl _ _⟩
    have t2 : (j == 4) = false := by simpa using j4
    by_cases k3 : k = 3
    · have t3 : (k == 3) = true := by simpa using k3
      go_enter Tryd.func20, Tryd.ntmps20
      go_wp2_with (first | (go_at_call_of 34 (Value.int IntKind.u64 a); refine (KA.out _).mono ?_; rintro e w' ⟨rfl, rfl⟩) | (go_at_call_of 34 (Value.int IntKind.u64 b); refine (KB.out _).mono ?_; rintro e w' ⟨rfl, rfl⟩))
      go_ret
      exact ⟨by rw [fin.out]; rfl, Below.refl _ _⟩
    have t3 : (k == 3) = false := by simpa using k3
    obtain rfl : j = 0 := by omega
    clear n
    go_enter Tryd.func20, Tryd.ntmps20
    go_wp2_with (first | (go_at_call_of 34 (Value.int IntKind.u64 a); refine (KA.out _).mono ?_; rintro e w' ⟨rfl, rfl⟩) | (go_at_call_of 34 (Value.int IntKind.u64 b); refine (KB.out _).mono ?_; rintro e w' ⟨rfl, rfl⟩))
    go_ret
    exact ⟨by rw [fin.out]; rfl, Below.refl _ _⟩
  have t1 : (k == 4) = false := by simp; omega
  have t2 : (j == 4) = false := by simp; omega
  have t3 : (k == 3) = false := by simp; omega
  have t4 : (j == 0) = false := by simp; omega
  by_cases z : k = 0 ∨ j = 3
  · have fin : Hid (v = a) := by unfold Hid; rw [V.out, if_neg n, if_pos z]
    clear V h1 h2 hk hj bk bj
    by_cases k0 : k = 0
    · have t5 : (k == 0) = true := by simpa using k0
      go_enter Tryd.func20, Tryd.ntmps20
      go_wp2_with (first | (go_at_call_of 34 (Value.int IntKind.u64 a); refine (KA.out _).mono ?_; rintro e w' ⟨rfl, rfl⟩) | (go_at_call_of 34 (Value.int IntKind.u64 b); refine (KB.out _).mono ?_; rintro e w' ⟨rfl, rfl⟩))
      go_ret
      exact ⟨by rw [fin.out]; rfl, Below.refl _ _⟩
    have t5 : (k == 0) = false := by simpa using k0
    obtain rfl : j = 3 := by omega
    clear z n
    go_enter Tryd.func20, Tryd.ntmps20
    go_wp2_with (first | (go_at_call_of 34 (Value.int IntKind.u64 a); refine (KA.out _).mono ?_; rintro e w' ⟨rfl, rfl⟩) | (go_at_call_of 34 (Value.int IntKind.u64 b); refine (KB.out _).mono ?_; rintro e w' ⟨rfl, rfl⟩))
    go_ret
    exact ⟨by rw [fin.out]; rfl, Below.refl _ _⟩
  have t5 : (k == 0) = false := by simp; omega
  have t6 : (j == 3) = false := by simp; omega
  have f1 := fin_of_kind h1 (by omega)
  have f2 := fin_of_kind h2 (by omega)
  have AA := Lib.hid (fun W => abs_fin a _ h1 f1 rfl W)
  have AB := Lib.hid (fun W => abs_fin b _ h2 f2 rfl W)
  have V2 : Hid (v = rndI (negB a) (XI a % XI b) (-1074)) := by unfold Hid; rw [V.out, if_neg n, if_neg z]
  by_cases g : absI a < absI b
  · have fin : Hid (v = a) := by unfold Hid; rw [V2.out, mod_less h1 h2 f1 f2 g]
    clear V V2 h1 h2 hk hj bk bj f1 f2
    generalize absI a = p at *
    generalize absI b = q at *
    go_enter Tryd.func20, Tryd.ntmps20
    go_wp2_with (first | (go_at_call_of 34 (Value.int IntKind.u64 a); refine (KA.out _).mono ?_; rintro e w' ⟨rfl, rfl⟩) | (go_at_call_of 34 (Value.int IntKind.u64 b); refine (KB.out _).mono ?_; rintro e w' ⟨rfl, rfl⟩) | (go_at_call_of 55 (Value.int IntKind.u64 a); refine (AA.out _).mono ?_; rintro e w' ⟨rfl, rfl⟩) | (go_at_call_of 55 (Value.int IntKind.u64 b); refine (AB.out _).mono ?_; rintro e w' ⟨rfl, rfl⟩))
    go_ret
    exact ⟨by rw [fin.out]; rfl, Below.refl _ _⟩
  have z2 := nz_of_kind h2 (by omega) (by omega)
  have mz : mantI b ≠ 0 := fun e => z2 ((mant_zero b h2 f2).1 e)
  have pe : powI b ≤ powI a := abs_mant h1 h2 f1 f2 (by omega)
  obtain ⟨a0, a1, p0, p1⟩ := mant_bd a h1
  obtain ⟨b0, b1, q0, q1⟩ := mant_bd b h2
  have MU := mod_units h1 h2 mz pe
  have SA := Lib.hid (fun W => split_vars a _ _ _ h1 rfl rfl rfl W)
  have SB := Lib.hid (fun W => split_vars b _ _ _ h2 rfl rfl rfl W)
  obtain ⟨N, hN⟩ : ∃ N : Nat, powI a - powI b = (N : Int) := ⟨(powI a - powI b).toNat, by omega⟩
  have RM := Lib.hid (fun W => remainder_any (mantI a) (mantI b) N a0 a1 (by omega) b1 (by omega) W)
  rw [hN] at MU
  obtain ⟨r, hr⟩ : ∃ r, mantI a * pw (N : Int) % mantI b = r := ⟨_, rfl⟩
  have r0 : 0 ≤ r := by rw [← hr]; exact Int.emod_nonneg _ mz
  have r1 : r < 9007199254740992 := by have := Int.emod_lt_of_pos (mantI a * pw (N : Int)) (show 0 < mantI b by omega); rw [hr] at this; omega
  rw [hr] at RM MU
  have JN := Lib.hid (fun W => JoinPost.word (neg := negB a) (more := false) (x := 0) (y := r) (e := powI b) (r := v) ⟨by decide, by decide⟩ ⟨r0, by omega⟩ (by omega) (by omega) (by rw [show val 0 r = r by unfold val; omega, V2.out, ← MU]; rfl) W)
  clear V V2 h1 h2 hk hj bk bj f1 f2 MU hr z2 mz
  have g2 : absI b ≤ absI a := by omega
  generalize absI a = p at *
  generalize absI b = q at *
  generalize mantI a = ma at *
  generalize mantI b = mb at *
  generalize powI a = pa at *
  generalize powI b = pb at *
  generalize negB a = na at *
  go_enter Tryd.func20, Tryd.ntmps20
  go_wp2_with (first | (go_at_call_of 34 (Value.int IntKind.u64 a); refine (KA.out _).mono ?_; rintro e w' ⟨rfl, rfl⟩) | (go_at_call_of 34 (Value.int IntKind.u64 b); refine (KB.out _).mono ?_; rintro e w' ⟨rfl, rfl⟩) | (go_at_call_of 55 (Value.int IntKind.u64 a); refine (AA.out _).mono ?_; rintro e w' ⟨rfl, rfl⟩) | (go_at_call_of 55 (Value.int IntKind.u64 b); refine (AB.out _).mono ?_; rintro e w' ⟨rfl, rfl⟩))
  refine (SA.out _).mono ?_
  rintro e w' ⟨rfl, rfl⟩
  go_wp2_with fail
  refine (SB.out _).mono ?_
  rintro e w' ⟨rfl, rfl⟩
  go_wp2_with fail
  refine (RM.out _).mono ?_
  rintro e w' ⟨rfl, rfl⟩
  go_wp2_with fail
  refine (JN.out _).mono ?_
  rintro e w1 ⟨rfl, hb1⟩
  go_wp2
  go_ret
  exact ⟨rfl, by first | exact hb1 | exact (below_new _ _).trans (hb1.mono (by simp))⟩
end Go.Proofs.YtnefacnceemklaaDoor

/-
  root.raised, root.Power: walked.
-/
namespace Go.Proofs.YtnefacnceemklaaDoor
open Go.RowKit Go.Shelf

def pstep (a p : Int) (b : Bool) : Int := if b = true then mulV (mulV p p) a else mulV p p
/-- The power of the k lowest bits of q, from the highest one on. -/
def powU (a : Int) : Nat → Nat → Int
  | 0, _ => 4607182418800017408
  | k + 1, q => pstep a (powU a k (q / 2)) (q % 2 == 1)
theorem powU_word {a : Int} (h : Word a) : ∀ k q, Word (powU a k q)
  | 0, _ => by unfold powU; decide
  | k + 1, q => by
    have p := powU_word h k (q / 2)
    unfold powU pstep
    split
    · exact mul_word (mul_word p p) h
    · exact mul_word p p
theorem powU_more (a : Int) : ∀ k q, q < 2 ^ k → powU a (k + 1) q = powU a k q
  | 0, q, h => by
    have : q = 0 := by simpa using h
    subst this
    show pstep a 4607182418800017408 false = 4607182418800017408
    unfold pstep
    rw [if_neg (by decide)]
    decide +kernel
  | k + 1, q, h => by
    have e := powU_more a k (q / 2) (by rw [Nat.pow_succ] at h; omega)
    show pstep a (powU a (k + 1) (q / 2)) (q % 2 == 1) = pstep a (powU a k (q / 2)) (q % 2 == 1)
    rw [e]
theorem powU_any (a : Int) {k q : Nat} (h : q < 2 ^ k) : ∀ j, powU a (k + j) q = powU a k q
  | 0 => rfl
  | j + 1 => by
    have : q < 2 ^ (k + j) := Nat.lt_of_lt_of_le h (Nat.pow_le_pow_right (by decide) (by omega))
    rw [← Nat.add_assoc, powU_more a (k + j) q this, powU_any a h j]
/-- i rounds of L, of n. -/
theorem powU_round (a : Int) (n : Nat) (L i : Nat) (hi : i < L) : powU a (i + 1) (n / 2 ^ (L - 1 - i)) = pstep a (powU a i (n / 2 ^ (L - i))) (n / 2 ^ (L - 1 - i) % 2 == 1) := by
  have e : n / 2 ^ (L - 1 - i) / 2 = n / 2 ^ (L - i) := by
    rw [Nat.div_div_eq_div_mul, ← Nat.pow_succ]; congr 2; omega
  show pstep a (powU a i (n / 2 ^ (L - 1 - i) / 2)) _ = _
  rw [e]
set_option maxRecDepth 100000 in
set_option maxHeartbeats 4000000 in
theorem raised_any (a : Int) (n : Nat) (h : Word a) (hn : (n : Int) < 18446744073709551616) (w : World) (hT : Tabs w) :
    Calls Tryd.prog 58 #[.int .u64 a, .int .u64 (n : Int)] w (WordPost (powU a 64 n) w) := by
  obtain ⟨L, hL⟩ : ∃ L, Lib.bitLen n = L := ⟨_, rfl⟩
  obtain ⟨b1, b2, b3⟩ := bitLen_bd n (by omega)
  rw [hL] at b1 b2 b3
  have LN : Hid (∀ W, Calls Tryd.prog 72 #[.int .u64 (n : Int)] W fun e w' => e = .returned (.int .i64 (L : Int)) ∧ W = w') := fun W => by
    have := Tryd.bits_Len64 (n : Int) W (by omega) (by omega)
    rw [Int.toNat_natCast, hL] at this
    exact this.mono fun _ _ h => ⟨h.1, h.2.symm⟩
  have fin : Hid (powU a L n = powU a 64 n) := by
    unfold Hid
    have := powU_any a b1 (64 - L)
    rw [show L + (64 - L) = 64 by omega] at this
    exact this.symm
  have ML := Lib.hid (fun x y (hx : Word x) (hy : Word y) W (h : Tabs W) => times_any x y hx hy W h)
  have PW := Lib.hid (fun k q => powU_word h k q)
  have PR := Lib.hid (fun i => powU_round a n L i)
  have HT := Lib.hid hT
  have HA := Lib.hid h
  have st0 : Hid (powU a 0 (n / 2 ^ (L - 0)) = 4607182418800017408) := rfl
  have L64 : (L : Int) ≤ 64 := by omega
  clear h hT hL b1 b2 b3
  go_enter Tryd.func58, Tryd.ntmps58
  go_wp2_with (go_at_call 72; refine (LN.out _).mono ?_; rintro e w' ⟨rfl, rfl⟩)
  go_loopw [5, 9] (fun v ii wx => ∃ i : Nat, ii = .int .i64 (i : Int) ∧ v = .int .u64 (powU a i (n / 2 ^ (L - i))) ∧ i ≤ L ∧ Below w.heap.size w wx) (fun _ ii _ => L - (intOf ii).toNat)
  case atStart => exact ⟨0, rfl, by rw [st0.out], by omega, Below.refl _ _⟩
  case round =>
    obtain ⟨i, rfl, rfl, hi, hB⟩ := hrel
    clear st0
    by_cases c : i < L
    · have c' : (i : Int) < (L : Int) := by omega
      have e := Lib.hid (PR.out i c)
      have wp := PW.out i (n / 2 ^ (L - i))
      have HTw := Lib.hid (HT.out.below hB)
      have M1 := Lib.hid (ML.out (powU a i (n / 2 ^ (L - i))) (powU a i (n / 2 ^ (L - i))) wp wp _ HTw.out)
      have wm := Lib.hid (mul_word wp wp)
      generalize powU a i (n / 2 ^ (L - i)) = p at *
      obtain ⟨q, hq⟩ : ∃ q : Nat, n / 2 ^ (L - 1 - i) = q := ⟨_, rfl⟩
      rw [hq] at e
      have en : powU a (i + 1) (n / 2 ^ (L - (i + 1))) = powU a (i + 1) q := by rw [← hq]; congr 3; omega
      have e2 : Hid (powU a (i + 1) (n / 2 ^ (L - (i + 1))) = if (q % 2 == 1) = true then mulV (mulV p p) a else mulV p p) := by
        unfold Hid; rw [en, e.out]; rfl
      obtain ⟨t, ht⟩ : ∃ t : Int, (L : Int) - 1 - (i : Int) = t := ⟨_, rfl⟩
      have t0 : 0 ≤ t := by omega
      have t1 : t ≤ 63 := by omega
      have hQ : (n : Int) / 2 ^ t.toNat = (q : Int) := by
        rw [← ht, show ((L : Int) - 1 - (i : Int)).toNat = L - 1 - i by omega, ← hq, Int.natCast_ediv, Int.natCast_pow]; rfl
      have q1 : (q : Int) < 18446744073709551616 := by
        have : q ≤ n := by rw [← hq]; exact Nat.div_le_self _ _
        omega
      have hA1 := and_one (q : Int) (by omega) q1
      have M2 := Lib.hid (fun W (h : Tabs W) => ML.out (mulV p p) a wm.out HA.out W h)
      generalize mulV p p = s at *
      clear hq en e PR PW ML wp q1
      obtain ⟨nxt, hnxt⟩ : ∃ z, powU a (i + 1) (n / 2 ^ (L - (i + 1))) = z := ⟨_, rfl⟩
      rw [hnxt] at e2
      have HN := Lib.hid hnxt
      clear hnxt
      by_cases o : q % 2 = 1
      · have ob : (q : Int) % 2 = 1 := by omega
        rw [ob] at hA1
        have ep : Hid (mulV s a = nxt) := by
          unfold Hid; rw [e2.out, if_pos (by simpa using o)]
        rw [ep.out] at M2
        clear e2 ep o
        go_wp2_with fail
        refine M1.out.mono ?_
        rintro en w1 ⟨rfl, hb1⟩
        have hB1 := hB.trans (hb1.mono hB.size)
        have M3 := Lib.hid (M2.out w1 (HTw.out.below hb1))
        go_wp2_with (go_at_call 72; refine (LN.out _).mono ?_; rintro e w' ⟨rfl, rfl⟩)
        refine M3.out.mono ?_
        rintro en w2 ⟨rfl, hb2⟩
        have hB2 := hB1.trans (hb2.mono hB1.size)
        go_wp2
        go_roundw
        case rel => exact ⟨i + 1, by go_num, by rw [HN.out], by omega, hB2⟩
        case measure => simp [intOf]; omega
      · have ob : (q : Int) % 2 = 0 := by omega
        rw [ob] at hA1
        have ep : Hid (s = nxt) := by
          unfold Hid; rw [e2.out, if_neg (by simpa using o)]
        rw [ep.out] at M1
        clear e2 ep o M2
        go_wp2_with fail
        refine M1.out.mono ?_
        rintro en w1 ⟨rfl, hb1⟩
        have hB1 := hB.trans (hb1.mono hB.size)
        go_wp2_with (go_at_call 72; refine (LN.out _).mono ?_; rintro e w' ⟨rfl, rfl⟩)
        go_roundw
        case rel => exact ⟨i + 1, by go_num, by rw [HN.out], by omega, hB1⟩
        case measure => simp [intOf]; omega
    · obtain rfl : i = L := by omega
      have e : Hid (powU a i (n / 2 ^ (i - i)) = powU a 64 n) := by unfold Hid; rw [Nat.sub_self, Nat.pow_zero, Nat.div_one]; exact fin.out
      generalize powU a i (n / 2 ^ (i - i)) = p at *
      generalize powU a 64 n = r at *
      have hge : ¬ (i : Int) < (i : Int) := by omega
      clear PR PW ML fin
      go_wp2
      go_ret
      exact ⟨by rw [← e.out]; rfl, hB⟩
end Go.Proofs.YtnefacnceemklaaDoor

/-
  root.Power: walked.
-/
namespace Go.Proofs.YtnefacnceemklaaDoor
open Go.RowKit Go.Shelf

def powerV (a n : Int) : Int := if kindI a = 4 then 9221120237041090560 else if n < 0 then divV 4607182418800017408 (powU a 64 (-n).toNat) else powU a 64 n.toNat
set_option maxHeartbeats 4000000 in
theorem power5_any (a n : Int) (h : Word a) (n0 : -9223372036854775808 ≤ n) (n1 : n ≤ 9223372036854775807) (w : World) (hT : Tabs w) :
    Calls Tryd.prog 22 #[.int .u64 a, .int .i64 n] w (WordPost (powerV a n) w) := by
  obtain ⟨k, hk⟩ : ∃ z, kindI a = z := ⟨_, rfl⟩
  have KA := Lib.hid (fun W => kind_vars a k h hk W)
  have V : Hid (powerV a n = if k = 4 then 9221120237041090560 else if n < 0 then divV 4607182418800017408 (powU a 64 (-n).toNat) else powU a 64 n.toNat) := by unfold Hid powerV; rw [hk]
  have HT := Lib.hid hT
  have PW := Lib.hid (fun q => powU_word h 64 q)
  generalize powerV a n = v at *
  by_cases k4 : k = 4
  · have tk : (k == 4) = true := by simpa using k4
    have fin : Hid (v = 9221120237041090560) := by unfold Hid; rw [V.out, if_pos k4]
    clear V h hT hk
    go_enter Tryd.func22, Tryd.ntmps22
    go_wp2_with (go_at_call 34; refine (KA.out _).mono ?_; rintro e w' ⟨rfl, rfl⟩)
    go_ret
    exact ⟨by rw [fin.out]; rfl, Below.refl _ _⟩
  have tk : (k == 4) = false := by simpa using k4
  by_cases c : n < 0
  · obtain ⟨m, hm⟩ : ∃ m : Nat, -n = (m : Int) := ⟨(-n).toNat, by omega⟩
    have em : (-n).toNat = m := by omega
    have fin : Hid (v = divV 4607182418800017408 (powU a 64 m)) := by unfold Hid; rw [V.out, if_neg k4, if_pos c, em]
    have RS := Lib.hid (fun W (hT : Tabs W) => raised_any a m h (by omega) W hT)
    have DV := Lib.hid (fun W => div5_any 4607182418800017408 (powU a 64 m) (by decide) (PW.out m) W)
    generalize powU a 64 m = p at *
    have w1 : IntKind.u64.wrap (-(IntKind.u64.wrap n)) = (m : Int) := by rw [IntKind.wrap_u64, IntKind.wrap_u64]; omega
    obtain ⟨t, ht⟩ : ∃ t, IntKind.u64.wrap n = t := ⟨_, rfl⟩
    rw [ht] at w1
    have W1 := Lib.hid w1
    clear V h hT hk em PW
    go_enter Tryd.func22, Tryd.ntmps22
    go_wp2_with (go_at_call 34; refine (KA.out _).mono ?_; rintro e w' ⟨rfl, rfl⟩)
    refine (RS.out _ HT.out).mono ?_
    rintro en w1 ⟨rfl, hb1⟩
    go_wp2_with fail
    refine (DV.out _).mono ?_
    rintro en w2 ⟨rfl, hb2⟩
    have hB2 := hb1.trans (hb2.mono hb1.size)
    go_wp2
    go_ret
    exact ⟨by rw [fin.out]; rfl, hB2⟩
  · obtain ⟨m, rfl⟩ : ∃ m : Nat, n = (m : Int) := ⟨n.toNat, by omega⟩
    have fin : Hid (v = powU a 64 m) := by unfold Hid; rw [V.out, if_neg k4, if_neg c, Int.toNat_natCast]
    have RS := Lib.hid (fun W (hT : Tabs W) => raised_any a m h (by omega) W hT)
    generalize powU a 64 m = p at *
    have w1 : IntKind.u64.wrap (m : Int) = (m : Int) := by rw [IntKind.wrap_u64]; omega
    clear V h hT hk PW
    go_enter Tryd.func22, Tryd.ntmps22
    go_wp2_with (go_at_call 34; refine (KA.out _).mono ?_; rintro e w' ⟨rfl, rfl⟩)
    refine (RS.out _ HT.out).mono ?_
    rintro en w1 ⟨rfl, hb1⟩
    go_wp2
    go_ret
    exact ⟨by rw [fin.out]; rfl, hb1⟩
end Go.Proofs.YtnefacnceemklaaDoor

