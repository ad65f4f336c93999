/-
  The walks of wide.Div and wide.Root.
-/
import Derived.Test.YtogldkjhcmlneaaW5
import Derived.Test.YtogldkjhcmlneaaW3
namespace Go.Proofs.Ytogldkjhcmlneaa
open Go.RowKit Go.Shelf

set_option maxHeartbeats 400000 in
theorem div_zero (h l : Int) (w : World) :
    Calls Try.prog 26 #[.agg #[.int .u64 h, .int .u64 l], .int .u64 0] w fun e w' => e = .returned (.tuple #[.agg #[.int .u64 0, .int .u64 0], .int .u64 0, .int .i64 10]) ∧ Below w.heap.size w w' := by
  go_enter Try.func26, Try.ntmps26
  go_wp2
  simp [bodyPost, results, Try.results26, go_sem]
  exact (((Below.refl _ _).alloc (Nat.le_refl _) _).alloc (by simp) _)

/-- What Div answers. -/
def DivPost (v b : Int) (w : World) (e : Ending) (w' : World) : Prop :=
  ∃ h l r : Int, e = .returned (.tuple #[.agg #[.int .u64 h, .int .u64 l], .int .u64 r, .int .i64 0]) ∧ Word h ∧ Word l ∧ Word r ∧ val h l = v / b ∧ r = v % b ∧ Below w.heap.size w w'
theorem div_words (h l b : Int) (h1 : Word h) (h2 : Word l) (h3 : Word b) (hb : 0 < b) :
    Word (h % b) ∧ h % b < b ∧ Word (h / b) ∧ Word (val (h % b) l / b) ∧ Word (val (h % b) l % b) ∧ val (h / b) (val (h % b) l / b) = val h l / b ∧ val (h % b) l % b = val h l % b := by
  unfold Word at *
  have e := Int.mul_ediv_add_emod h b
  have m0 := Int.emod_nonneg h (by omega : b ≠ 0)
  have m1 := Int.emod_lt_of_pos h hb
  have e2 : val h l = val (h % b) l + b * (h / b * 18446744073709551616) := by
    unfold val
    rw [← Int.mul_assoc]
    generalize b * (h / b) = z at *
    omega
  have q0 : 0 ≤ h / b := Int.ediv_nonneg h1.1 (by omega)
  have q1 := Int.ediv_le_self b h1.1
  have v0 : 0 ≤ val (h % b) l := by unfold val; omega
  have v1 : val (h % b) l < b * 18446744073709551616 := by unfold val; omega
  have q2 : 0 ≤ val (h % b) l / b := Int.ediv_nonneg v0 (by omega)
  have q3 : val (h % b) l / b < 18446744073709551616 := Int.ediv_lt_of_lt_mul hb (by rw [Int.mul_comm]; exact v1)
  have r0 := Int.emod_nonneg (val (h % b) l) (by omega : b ≠ 0)
  have r1 := Int.emod_lt_of_pos (val (h % b) l) hb
  refine ⟨by omega, by omega, by omega, by omega, by omega, ?_, ?_⟩
  · rw [e2, Int.add_mul_ediv_left _ _ (by omega)]; show _ * _ + _ = _; omega
  · rw [e2, Int.add_mul_emod_self_left]
theorem div_mk (h l b x y r : Int) (h1 : Word h) (h2 : Word l) (h3 : Word b) (hb : 0 < b) (hx : h / b = x) (hy : val (h % b) l / b = y) (hr : val (h % b) l % b = r) (w w' : World) (hb' : Below w.heap.size w w') :
    DivPost (val h l) b w (.returned (.tuple #[.agg #[.int .u64 x, .int .u64 y], .int .u64 r, .int .i64 0])) w' := by
  subst hx; subst hy; subst hr
  obtain ⟨a1, a2, a3, a4, a5, a6, a7⟩ := div_words h l b h1 h2 h3 hb
  exact ⟨_, _, _, rfl, a3, a4, a5, a6, a7, hb'⟩
theorem div64_vars (hi lo y q r : Int) (h1 : Word hi) (h2 : Word lo) (h3 : Word y) (hlt : hi < y) (hq : val hi lo / y = q) (hr : val hi lo % y = r) (w : World) :
    Calls Try.prog 48 #[.int .u64 hi, .int .u64 lo, .int .u64 y] w fun e w' => e = .returned (.tuple #[.int .u64 q, .int .u64 r]) ∧ ∃ n, w' = w.drewN n := by
  subst hq; subst hr; exact div64_any hi lo y h1 h2 h3 hlt w

set_option maxHeartbeats 1000000 in
theorem div_any (h l b : Int) (h1 : Word h) (h2 : Word l) (h3 : Word b) (hb : 0 < b) (w : World) :
    Calls Try.prog 26 #[.agg #[.int .u64 h, .int .u64 l], .int .u64 b] w (DivPost (val h l) b w) := by
  obtain ⟨x, hx⟩ : ∃ x, h / b = x := ⟨_, rfl⟩
  obtain ⟨m, hm⟩ : ∃ x, h % b = x := ⟨_, rfl⟩
  obtain ⟨y, hy⟩ : ∃ x, val (h % b) l / b = x := ⟨_, rfl⟩
  obtain ⟨r, hr⟩ : ∃ x, val (h % b) l % b = x := ⟨_, rfl⟩
  obtain ⟨a1, a2, a3, a4, a5, a6, a7⟩ := div_words h l b h1 h2 h3 hb
  have Hm := Lib.hid (div_mk h l b x y r h1 h2 h3 hb hx hy hr)
  rw [hm] at a1 a2 hy hr
  have Hd := Lib.hid (div64_vars m l b y r a1 h2 h3 a2 hy hr)
  obtain ⟨c1, c2⟩ := h1; obtain ⟨d1, d2⟩ := h2; obtain ⟨f1, f2⟩ := h3
  have hb0 : (b == 0) = false := by simp; omega
  clear a1 a2 a3 a4 a5 a6 a7 hy hr
  go_enter Try.func26, Try.ntmps26
  go_wp2
  go_quiet ((go_at_call 48; refine Calls.quiet_of (Hd.out _)))
  have e0 : (((w.alloc (.cells #[.int .u64 h, .int .u64 l] 24)).alloc (.cells #[.int .u64 0, .int .u64 0] 24)).drewN nq).cell? ⟨w.heap.size + 1, 0, none⟩ = some (.int .u64 0) := by simp [go_sem]
  have e1 : (((w.alloc (.cells #[.int .u64 h, .int .u64 l] 24)).alloc (.cells #[.int .u64 0, .int .u64 0] 24)).drewN nq).cell? ⟨w.heap.size + 1, 1, none⟩ = some (.int .u64 0) := by simp [go_sem]
  go_wp2
  simp [bodyPost, results, Try.results26, go_sem, e0, e1]
  refine Hm.out _ _ ?_
  exact ((below_drewN (((Below.refl _ _).alloc (Nat.le_refl _) _).alloc (by simp) _) nq).setCell (by simp) _).setCell (by simp) _

/-! ### Root -/
theorem or_bit (x n : Int) (h0 : 0 ≤ x) (h1 : x < 18446744073709551616) (hn0 : 0 ≤ n) (hn1 : n < 64) (hx : x % pw (n + 1) = 0) (hw : IntKind.u64.wrap (pw n) = pw n) : bits .or .u64 x (IntKind.u64.wrap (pw n)) = x + pw n := by
  rw [hw]
  have hp := pw_add n 1 hn0 (by decide)
  have hlt : pw n < 18446744073709551616 := by
    have := pw_split n hn0 (by omega)
    have hq := pw_pos (64 - n)
    have h2 : 2 ≤ pw (64 - n) := by
      rw [show 64 - n = (63 - n) + 1 by omega, pw_add _ _ (by omega) (by omega)]
      have := pw_pos (63 - n); rw [show pw 1 = 2 from rfl]; omega
    have := Int.mul_le_mul_of_nonneg_left h2 (Int.le_of_lt (pw_pos n))
    have := pw_pos n
    omega
  obtain ⟨m, rfl⟩ := Int.eq_ofNat_of_zero_le h0
  obtain ⟨k, rfl⟩ := Int.eq_ofNat_of_zero_le hn0
  have e : pw (k : Int) = ((2 ^ k : Nat) : Int) := rfl
  rw [e] at hlt ⊢
  rw [u64_or_nat _ _ (by omega) (by omega), Plain.nat_join (k + 1) m (2 ^ k) ?_ (Nat.pow_lt_pow_right (by decide) (by omega))]
  · rfl
  · have e2 : pw ((k : Int) + 1) = ((2 ^ (k + 1) : Nat) : Int) := rfl
    rw [e2] at hx
    exact Int.ofNat.inj hx

/-- What Root answers. -/
def RootPost (v : Int) (w : World) (e : Ending) (w' : World) : Prop :=
  ∃ r : Int, ∃ o : Bool, e = .returned (.tuple #[.int .u64 r, .bool o]) ∧ Word r ∧ r * r ≤ v ∧ v < (r + 1) * (r + 1) ∧ (o = true ↔ r * r = v) ∧ Below w.heap.size w w'

/-- What holds of the root so far, at the head of round k. -/
structure RootAt (v : Int) (k : Int) (r : Int) : Prop where
  w : Word r
  d : r % pw (64 - k) = 0
  lo : r * r ≤ v
  hi : v < (r + pw (64 - k)) * (r + pw (64 - k))

/-- Cmp's answer. -/
def cmpI (a b : Int) : Int := if a < b then -1 else if a = b then 0 else 1
theorem cmpI_le (a b : Int) : cmpI a b ≤ 0 ↔ a ≤ b := by unfold cmpI; split <;> (try split) <;> omega
set_option maxHeartbeats 400000 in
theorem cmp_exact (ah al bh bl : Int) (h1 : Word ah) (h2 : Word al) (h3 : Word bh) (h4 : Word bl) (w : World) :
    Calls Try.prog 18 #[.agg #[.int .u64 ah, .int .u64 al], .agg #[.int .u64 bh, .int .u64 bl]] w fun e w' => e = .returned (.int .i64 (cmpI (val ah al) (val bh bl))) ∧ ∃ c1 c2, w' = (w.alloc (.cells c1 24)).alloc (.cells c2 24) := by
  obtain ⟨a1, a2⟩ := h1; obtain ⟨b1, b2⟩ := h2; obtain ⟨c1, c2⟩ := h3; obtain ⟨d1, d2⟩ := h4
  by_cases e1 : ah = bh
  · subst e1
    by_cases e2 : al = bl
    · subst e2
      have E : Hid ((0 : Int) = cmpI (val ah al) (val ah al)) := by unfold Hid cmpI; simp
      go_enter Try.func18, Try.ntmps18
      go_wp2
      go_ret
      exact ⟨congrArg (fun z => Ending.returned (.int .i64 z)) E.out, _, _, rfl⟩
    · by_cases e3 : al < bl
      · have E : Hid ((-1 : Int) = cmpI (val ah al) (val ah bl)) := by unfold Hid cmpI; rw [if_pos (by unfold val; omega)]
        go_enter Try.func18, Try.ntmps18
        go_wp2
        go_ret
        exact ⟨congrArg (fun z => Ending.returned (.int .i64 z)) E.out, _, _, rfl⟩
      · have E : Hid ((1 : Int) = cmpI (val ah al) (val ah bl)) := by unfold Hid cmpI; rw [if_neg (by unfold val; omega), if_neg (by unfold val; omega)]
        go_enter Try.func18, Try.ntmps18
        go_wp2
        go_ret
        exact ⟨congrArg (fun z => Ending.returned (.int .i64 z)) E.out, _, _, rfl⟩
  · by_cases e3 : ah < bh
    · have E : Hid ((-1 : Int) = cmpI (val ah al) (val bh bl)) := by unfold Hid cmpI; rw [if_pos (by unfold val; omega)]
      go_enter Try.func18, Try.ntmps18
      go_wp2
      go_ret
      exact ⟨congrArg (fun z => Ending.returned (.int .i64 z)) E.out, _, _, rfl⟩
    · have E : Hid ((1 : Int) = cmpI (val ah al) (val bh bl)) := by unfold Hid cmpI; rw [if_neg (by unfold val; omega), if_neg (by unfold val; omega)]
      go_enter Try.func18, Try.ntmps18
      go_wp2
      go_ret
      exact ⟨congrArg (fun z => Ending.returned (.int .i64 z)) E.out, _, _, rfl⟩
theorem cmp_vars (ah al bh bl c : Int) (h1 : Word ah) (h2 : Word al) (h3 : Word bh) (h4 : Word bl) (hc : cmpI (val ah al) (val bh bl) = c) (w : World) :
    Calls Try.prog 18 #[.agg #[.int .u64 ah, .int .u64 al], .agg #[.int .u64 bh, .int .u64 bl]] w fun e w' => e = .returned (.int .i64 c) ∧ ∃ c1 c2, w' = (w.alloc (.cells c1 24)).alloc (.cells c2 24) := by
  subst hc; exact cmp_exact ah al bh bl h1 h2 h3 h4 w

theorem root_bit {v k r : Int} (h0 : 0 ≤ k) (h1 : k < 64) (a : RootAt v k r) : bits .or .u64 r (IntKind.u64.wrap (pw (63 - k))) = r + pw (63 - k) ∧ Word (r + pw (63 - k)) := by
  have hp := pw_pos (63 - k)
  have e2 : pw (64 - k) = 2 * pw (63 - k) := by rw [show 64 - k = (63 - k) + 1 by omega, pw_add _ _ (by omega) (by decide), show pw 1 = 2 from rfl]; omega
  have hs := pw_split (64 - k) (by omega) (by omega)
  have hq := pw_pos (64 - (64 - k))
  have d := a.d
  have w0 := a.w.1
  have w1 := a.w.2
  have e3 := Int.mul_ediv_add_emod r (pw (64 - k))
  rw [d] at e3
  have hlt : r / pw (64 - k) < pw (64 - (64 - k)) := by
    apply Int.ediv_lt_of_lt_mul (by omega)
    rw [Int.mul_comm, hs]; exact w1
  have hle := Int.mul_le_mul_of_nonneg_left (show r / pw (64 - k) + 1 ≤ pw (64 - (64 - k)) by omega) (show 0 ≤ pw (64 - k) by omega)
  rw [Int.mul_add, hs] at hle
  have hw : IntKind.u64.wrap (pw (63 - k)) = pw (63 - k) := by rw [IntKind.wrap_u64, Int.emod_eq_of_lt (by omega) (by omega)]
  exact ⟨or_bit r (63 - k) w0 w1 (by omega) (by omega) (by rw [show 63 - k + 1 = 64 - k by omega]; exact d) hw, by omega, by omega⟩
theorem root_step {v k r : Int} (h0 : 0 ≤ k) (h1 : k < 64) (a : RootAt v k r) :
    ((r + pw (63 - k)) * (r + pw (63 - k)) ≤ v → RootAt v (k + 1) (r + pw (63 - k))) ∧ (v < (r + pw (63 - k)) * (r + pw (63 - k)) → RootAt v (k + 1) r) := by
  have hw := (root_bit h0 h1 a).2
  have e2 : pw (64 - k) = pw (63 - k) + pw (63 - k) := by rw [show 64 - k = (63 - k) + 1 by omega, pw_add _ _ (by omega) (by decide), show pw 1 = 2 from rfl]; omega
  have e1 : 64 - (k + 1) = 63 - k := by omega
  have d : r % pw (63 - k) = 0 := by
    have := Int.mul_ediv_add_emod r (pw (64 - k))
    rw [a.d, e2] at this
    rw [← this, Int.add_mul]
    simp
  refine ⟨fun h => ⟨hw, ?_, h, ?_⟩, fun h => ⟨a.w, ?_, a.lo, ?_⟩⟩
  · rw [e1]; rw [Int.add_emod_right]; exact d
  · rw [e1, Int.add_assoc, ← e2]; exact a.hi
  · rw [e1]; exact d
  · rw [e1]; exact h
theorem root_start (v : Int) (h0 : 0 ≤ v) (h1 : v < 340282366920938463463374607431768211456) : RootAt v 0 0 :=
  ⟨⟨by decide, by decide⟩, by simp, by omega, by rw [show pw (64 - 0) = 18446744073709551616 from rfl]; omega⟩
theorem sq_val (x y h l : Int) (hx : x * x / 18446744073709551616 = h) (hy : x * x % 18446744073709551616 = l) (_ : y = 0) : val h l = x * x := by
  unfold val; generalize x * x = z at *; omega
theorem sq_words (x : Int) (h : Word x) : Word (x * x / 18446744073709551616) ∧ Word (x * x % 18446744073709551616) ∧ val (x * x / 18446744073709551616) (x * x % 18446744073709551616) = x * x := by
  have := mul_bd x x h h
  unfold val Word
  generalize x * x = z at *
  omega

set_option maxHeartbeats 1000000 in
theorem root_any (h l : Int) (h1 : Word h) (h2 : Word l) (w : World) :
    Calls Try.prog 29 #[.agg #[.int .u64 h, .int .u64 l]] w (RootPost (val h l) w) := by
  have hb := val_bd h1 h2
  have H0 := Lib.hid (root_start _ hb.1 hb.2)
  have H1 := Lib.hid h1; have H2 := Lib.hid h2; clear h1 h2 hb
  go_enter Try.func29, Try.ntmps29
  go_wp2
  go_loopw [4, 7] (fun x i wr => ∃ (k : Nat) (r : Int), k ≤ 64 ∧ i = .int .i64 (k : Int) ∧ x = .int .u64 r ∧ RootAt (val h l) k r ∧ wr.cell? ⟨w.heap.size, 0, none⟩ = some (.int .u64 h) ∧ wr.cell? ⟨w.heap.size, 1, none⟩ = some (.int .u64 l) ∧ Below w.heap.size w wr ∧ w.heap.size < wr.heap.size) (fun _ i _ => 64 - (intOf i).toNat)
  case atStart => exact ⟨0, 0, by omega, rfl, rfl, H0.out, by simp [go_sem], by simp [go_sem], (Below.refl _ _).alloc (Nat.le_refl _) _, by simp⟩
  case round =>
    obtain ⟨k, r, hk, rfl, rfl, hr, hc0, hc1, hbl, hsz⟩ := hrel
    have z1 : w.heap.size ≤ wr.heap.size := by omega
    have z2 : w.heap.size ≤ wr.heap.size + 1 := by omega
    have z3 : w.heap.size < wr.heap.size + 1 := by omega
    have z4 : w.heap.size < wr.heap.size + 1 + 1 := by omega
    have z5 : w.heap.size ≠ wr.heap.size := by omega
    have z6 : w.heap.size ≠ wr.heap.size + 1 := by omega
    have z7 : w.heap.size ≠ wr.heap.size + 1 + 1 := by omega
    by_cases hlt : k < 64
    · obtain ⟨w1, w2⟩ := root_bit (by omega) (by omega) hr
      have st := root_step (by omega) (by omega) hr
      obtain ⟨x, hx⟩ : ∃ x, r + pw (63 - (k : Int)) = x := ⟨_, rfl⟩
      rw [hx] at w2 st w1
      rw [← pw_eq, show (63 - (k : Int)).toNat = 63 - k by omega] at w1
      obtain ⟨s1, s2, s3⟩ := sq_words x w2
      obtain ⟨p, hp⟩ : ∃ z, x * x / 18446744073709551616 = z := ⟨_, rfl⟩
      obtain ⟨q, hq⟩ : ∃ z, x * x % 18446744073709551616 = z := ⟨_, rfl⟩
      rw [hp] at s1 s3; rw [hq] at s2 s3
      have Hp := Lib.hid hp; have Hq := Lib.hid hq; clear hp hq
      obtain ⟨c, hc⟩ : ∃ c, cmpI (x * x) (val h l) = c := ⟨_, rfl⟩
      have ci := cmpI_le (x * x) (val h l)
      rw [hc] at ci
      rw [← s3] at hc
      have Hc := Lib.hid hc; have Ci := Lib.hid ci; have St := Lib.hid st; have W2 := Lib.hid w2; have S1 := Lib.hid s1; have S2 := Lib.hid s2; have Hr := Lib.hid hr
      have Hbl := Lib.hid hbl
      clear hc ci st w2 s1 s2 s3 hx hr hbl
      by_cases hcc : c ≤ 0
      · go_wp2_with fail
        go_region_held3 (fun w' => w'.cell? ⟨w.heap.size, 0, none⟩ = some (.int .u64 h) ∧ w'.cell? ⟨w.heap.size, 1, none⟩ = some (.int .u64 l)) (simp [*, go_sem, World.cell?_alloc_past])
          (first
            | (go_at_call 15; refine (mul_vars x x p q W2.out W2.out Hp.out Hq.out _).mono ?_; rintro e w1 ⟨rfl, c1, rfl⟩)
            | (go_at_call 18; refine (cmp_vars p q h l c S1.out S2.out H1.out H2.out Hc.out _).mono ?_; rintro e w2 ⟨rfl, c2, c3, rfl⟩))
        go_wp2_with fail
        go_roundw
        case rel => exact ⟨k + 1, x, by omega, by go_num, rfl, (by simpa using St.out.1 (Ci.out.1 hcc)), by simp [*, go_sem], by simp [*, go_sem], by repeat (first | exact Hbl.out | refine Below.drew ?_ | refine Below.alloc ?_ (by first | omega | (simp; omega)) _), by simp; omega⟩
        case measure => simp [intOf]; omega
      · go_wp2_with fail
        go_region_held3 (fun w' => w'.cell? ⟨w.heap.size, 0, none⟩ = some (.int .u64 h) ∧ w'.cell? ⟨w.heap.size, 1, none⟩ = some (.int .u64 l)) (simp [*, go_sem])
          (first
            | (go_at_call 15; refine (mul_vars x x p q W2.out W2.out Hp.out Hq.out _).mono ?_; rintro e w1 ⟨rfl, c1, rfl⟩)
            | (go_at_call 18; refine (cmp_vars p q h l c S1.out S2.out H1.out H2.out Hc.out _).mono ?_; rintro e w2 ⟨rfl, c2, c3, rfl⟩))
        go_wp2_with fail
        go_roundw
        case rel => exact ⟨k + 1, r, by omega, by go_num, rfl, (by simpa using St.out.2 (by have := Ci.out; omega)), by simp [*, go_sem], by simp [*, go_sem], by repeat (first | exact Hbl.out | refine Below.drew ?_ | refine Below.alloc ?_ (by first | omega | (simp; omega)) _), by simp; omega⟩
        case measure => simp [intOf]; omega
    · have w2 := hr.w
      obtain ⟨s1, s2, s3⟩ := sq_words r w2
      obtain ⟨p, hp⟩ : ∃ z, r * r / 18446744073709551616 = z := ⟨_, rfl⟩
      obtain ⟨q, hq⟩ : ∃ z, r * r % 18446744073709551616 = z := ⟨_, rfl⟩
      rw [hp] at s1 s3; rw [hq] at s2 s3
      have hlo := hr.lo
      have hhi := hr.hi
      rw [show 64 - (k : Int) = 0 by omega, show pw 0 = 1 from rfl] at hhi
      have Hfin : Hid (∀ (o : Bool) (w' : World), (o = true ↔ (p = h ∧ q = l)) → Below w.heap.size w w' → RootPost (val h l) w (.returned (.tuple #[.int .u64 r, .bool o])) w') := by
        intro o w' ho hb'
        refine ⟨r, o, rfl, w2, hlo, hhi, ?_, hb'⟩
        rw [ho, ← s3]
        exact ⟨fun ⟨e1, e2⟩ => by rw [e1, e2], fun e => val_inj s1 s2 H1.out H2.out e⟩
      have Hp := Lib.hid hp; have Hq := Lib.hid hq; have W2 := Lib.hid w2; have Hbl := Lib.hid hbl
      clear hp hq w2 s1 s2 s3 hlo hhi hr hbl
      have Hc : Hid (∀ o : Bool, o = ((p == h) && (q == l)) → (o = true ↔ (p = h ∧ q = l))) := fun o ho => by subst ho; simp
      rcases Bool.eq_false_or_eq_true (p == h) with k1 | k1 <;> rcases Bool.eq_false_or_eq_true (q == l) with k2 | k2
      all_goals
        go_wp2_with fail
        go_region_held3 (fun w' => w'.cell? ⟨w.heap.size, 0, none⟩ = some (.int .u64 h) ∧ w'.cell? ⟨w.heap.size, 1, none⟩ = some (.int .u64 l)) (simp [*, go_sem])
          (first
            | (go_at_call 15; refine (mul_vars r r p q W2.out W2.out Hp.out Hq.out _).mono ?_; rintro e w1 ⟨rfl, c1, rfl⟩))
        go_wp2_with fail
        go_ret2
        exact Hfin.out _ _ (Hc.out _ (by rw [k1, k2]; rfl)) (by repeat (first | exact Hbl.out | refine Below.drew ?_ | refine Below.alloc ?_ (by first | omega | (simp; omega)) _))
end Go.Proofs.Ytogldkjhcmlneaa
