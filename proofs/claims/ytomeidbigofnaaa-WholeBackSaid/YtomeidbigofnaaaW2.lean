/-
  The walks of package wide: Shl, Shr.
-/
import Derived.Test.YtomeidbigofnaaaW1
namespace Go.Proofs.Ytomeidbigofnaaa
open Go.RowKit Go.Shelf

/-- A power of two, as an int. -/
def pw (n : Int) : Int := ((2 ^ n.toNat : Nat) : Int)
theorem pw_eq (n : Int) : (2 : Int) ^ n.toNat = pw n := (Int.natCast_pow 2 n.toNat).symm
theorem pw_pos (n : Int) : 0 < pw n := by exact Int.natCast_pos.2 (Nat.two_pow_pos _)
theorem pw_nonpos {n : Int} (h : n ≤ 0) : pw n = 1 := by unfold pw; rw [Int.toNat_of_nonpos h]; rfl
theorem pw_add (a b : Int) (ha : 0 ≤ a) (hb : 0 ≤ b) : pw (a + b) = pw a * pw b := by
  unfold pw
  rw [Int.toNat_add ha hb, Nat.pow_add]
  rfl
theorem pw_64 : pw 64 = 18446744073709551616 := rfl
theorem pw_split (n : Int) (h0 : 0 ≤ n) (h1 : n ≤ 64) : pw n * pw (64 - n) = 18446744073709551616 := by
  rw [← pw_add n (64 - n) h0 (by omega), show n + (64 - n) = 64 by omega]; rfl

/-- The words of a number that is shifted up by less than a word. -/
theorem shl_words (h l n : Int) (h1 : Word h) (h2 : Word l) (hn : 0 ≤ n) (hn2 : n ≤ 64) :
    bits .or .u64 (IntKind.u64.wrap (h * pw n)) (l / pw (64 - n)) = (val h l * pw n % 340282366920938463463374607431768211456) / 18446744073709551616 ∧
    IntKind.u64.wrap (l * pw n) = (val h l * pw n % 340282366920938463463374607431768211456) % 18446744073709551616 := by
  have hs := pw_split n hn hn2
  have hp := pw_pos n
  have hq := pw_pos (64 - n)
  have hpw : pw n = ((2 ^ n.toNat : Nat) : Int) := rfl
  obtain ⟨h, rfl⟩ := Int.eq_ofNat_of_zero_le h1.1
  obtain ⟨l, rfl⟩ := Int.eq_ofNat_of_zero_le h2.1
  generalize pw (64 - n) = q' at *
  generalize pw n = p' at *
  obtain ⟨p, rfl⟩ := Int.eq_ofNat_of_zero_le (Int.le_of_lt hp)
  obtain ⟨q, rfl⟩ := Int.eq_ofNat_of_zero_le (Int.le_of_lt hq)
  have hpq : p * q = Plain.B := Int.ofNat.inj hs
  have hpw : p = 2 ^ n.toNat := by exact_mod_cast hpw
  obtain ⟨a1, a2, a3, a4⟩ := Plain.shl_parts p q h l (by omega) (by omega) hpq (by have := h1.2; unfold Plain.B; omega) (by have := h2.2; unfold Plain.B; omega)
  have hl2 : l / q < 18446744073709551616 := Nat.lt_of_le_of_lt (Nat.div_le_self _ _) (by have := h2.2; omega)
  have e1 : IntKind.u64.wrap ((h : Int) * (p : Int)) = ((h * p % Plain.B : Nat) : Int) := by rw [IntKind.wrap_u64]; rfl
  have e2 : IntKind.u64.wrap ((l : Int) * (p : Int)) = ((l * p % Plain.B : Nat) : Int) := by rw [IntKind.wrap_u64]; rfl
  have e3 : (l : Int) / (q : Int) = ((l / q : Nat) : Int) := rfl
  have e4 : val (h : Int) (l : Int) * (p : Int) % 340282366920938463463374607431768211456 = (((h * Plain.B + l) * p % (Plain.B * Plain.B) : Nat) : Int) := rfl
  rw [e1, e2, e3, e4, u64_or_nat _ _ (Nat.mod_lt _ (by decide)) hl2]
  have a3' : h * p % Plain.B % 2 ^ n.toNat = 0 := by rw [← hpw]; exact a3
  have a4' : l / q < 2 ^ n.toNat := by rw [← hpw]; exact a4
  rw [Plain.nat_join n.toNat _ _ a3' a4', a1, a2]
  exact ⟨rfl, rfl⟩

theorem u128_mk (v : Int) (h0 : 0 ≤ v) (h1 : v < 340282366920938463463374607431768211456) (w w' : World) (hb : Below w.heap.size w w') :
    U128Post v w (.returned (.agg #[.int .u64 (v / 18446744073709551616), .int .u64 (v % 18446744073709551616)])) w' :=
  ⟨_, _, rfl, ⟨by omega, by omega⟩, ⟨by omega, by omega⟩, by unfold val; omega, hb⟩
theorem mod_bd (x : Int) : 0 ≤ x % 340282366920938463463374607431768211456 ∧ x % 340282366920938463463374607431768211456 < 340282366920938463463374607431768211456 := by omega

theorem shl_mk (h l n : Int) (h1 : Word h) (h2 : Word l) (hn : 0 ≤ n) (hn2 : n ≤ 64) (w w' : World) (hb : Below w.heap.size w w') :
    U128Post (val h l * pw n % 340282366920938463463374607431768211456) w (.returned (.agg #[.int .u64 (bits .or .u64 (IntKind.u64.wrap (h * 2 ^ n.toNat)) (l / 2 ^ (64 - n).toNat)), .int .u64 (IntKind.u64.wrap (l * 2 ^ n.toNat))])) w' := by
  rw [pw_eq, pw_eq, (shl_words h l n h1 h2 hn hn2).1, (shl_words h l n h1 h2 hn hn2).2]
  exact u128_mk _ (mod_bd _).1 (mod_bd _).2 _ _ hb

set_option maxHeartbeats 400000 in
theorem shl_mid (h l n : Int) (h1 : Word h) (h2 : Word l) (hn : 0 < n) (hn2 : n < 64) (w : World) :
    Calls Try.prog 67 #[.agg #[.int .u64 h, .int .u64 l], .int .i64 n] w (U128Post (val h l * pw n % 340282366920938463463374607431768211456) w) := by
  have Hm := Lib.hid (shl_mk h l n h1 h2 (by omega) (by omega))
  obtain ⟨a1, a2⟩ := h1; obtain ⟨b1, b2⟩ := h2
  go_enter Try.func67, Try.ntmps67
  go_wp2
  go_region
  all_goals (go_wp2; simp [bodyPost, results, Try.results67, go_sem]; exact Hm.out _ _ (((Below.refl _ _).alloc (Nat.le_refl _) _).alloc (by simp) _).drew)

set_option maxHeartbeats 400000 in
theorem shl_none (h l n : Int) (hn : n ≤ 0) (w : World) :
    Calls Try.prog 67 #[.agg #[.int .u64 h, .int .u64 l], .int .i64 n] w fun e w' => e = .returned (.agg #[.int .u64 h, .int .u64 l]) ∧ Below w.heap.size w w' := by
  go_enter Try.func67, Try.ntmps67
  go_wp2
  simp [bodyPost, results, Try.results67, go_sem]
  exact (((Below.refl _ _).alloc (Nat.le_refl _) _).alloc (by simp) _)

/-- A shift up by a word or more. -/
theorem shl_far_mk (h l n : Int) (hn : 64 ≤ n) (w w' : World) (hb : Below w.heap.size w w') :
    U128Post (val h l * pw n % 340282366920938463463374607431768211456) w (.returned (.agg #[.int .u64 (IntKind.u64.wrap (l * 2 ^ min (n - 64).toNat 64)), .int .u64 0])) w' := by
  have e : val h l * pw n % 340282366920938463463374607431768211456 = val (IntKind.u64.wrap (l * 2 ^ min (n - 64).toNat 64)) 0 := by
    rw [IntKind.wrap_u64]
    have e1 : pw n = pw (n - 64) * 18446744073709551616 := by rw [← pw_64, ← pw_add _ _ (by omega) (by omega)]; congr 1; omega
    have e2 : ∃ k, pw (n - 64) = 2 ^ min (n - 64).toNat 64 * k ∧ (64 ≤ n - 64 ∨ k = 1) := by
      rw [← pw_eq]
      by_cases hm : (n - 64).toNat ≤ 64
      · exact ⟨1, by rw [Nat.min_eq_left hm, Int.mul_one], .inr rfl⟩
      · exact ⟨2 ^ ((n - 64).toNat - 64), by rw [Nat.min_eq_right (by omega), ← Int.pow_add]; congr 1; omega, .inl (by omega)⟩
    obtain ⟨k, e2, hk⟩ := e2
    rcases hk with hk | rfl
    · have e3 : min (n - 64).toNat 64 = 64 := by omega
      rw [e1, e2, e3, show (2 : Int) ^ 64 = 18446744073709551616 from rfl]
      unfold val
      have a1 : (h * 18446744073709551616 + l) * (18446744073709551616 * k * 18446744073709551616) = ((h * 18446744073709551616 + l) * k) * 340282366920938463463374607431768211456 := by
        generalize h * 18446744073709551616 + l = v
        rw [Int.mul_comm 18446744073709551616 k, Int.mul_assoc k, ← Int.mul_assoc v k]; rfl
      rw [a1, Int.mul_emod_left, Int.mul_emod_left]; rfl
    · rw [e1, e2, Int.mul_one]
      generalize (2 : Int) ^ min (n - 64).toNat 64 = p
      unfold val
      rw [Int.add_mul, show h * 18446744073709551616 * (p * 18446744073709551616) = (h * p) * 340282366920938463463374607431768211456 by
        rw [Int.mul_assoc, Int.mul_left_comm 18446744073709551616 p, ← Int.mul_assoc h p]; rfl, ← Int.mul_assoc l p]
      generalize h * p = x
      generalize l * p = y
      omega
  refine ⟨_, _, rfl, ?_, ⟨by omega, by omega⟩, e.symm, hb⟩
  rw [IntKind.wrap_u64]; exact ⟨by omega, by omega⟩

set_option maxHeartbeats 400000 in
theorem shl_far (h l n : Int) (hn : 64 ≤ n) (hn2 : n ≤ 9223372036854775807) (w : World) :
    Calls Try.prog 67 #[.agg #[.int .u64 h, .int .u64 l], .int .i64 n] w (U128Post (val h l * pw n % 340282366920938463463374607431768211456) w) := by
  have Hm := Lib.hid (shl_far_mk h l n hn)
  go_enter Try.func67, Try.ntmps67
  go_wp2
  simp [bodyPost, results, Try.results67, go_sem]
  exact Hm.out _ _ (((Below.refl _ _).alloc (Nat.le_refl _) _).alloc (by simp) _)

theorem val_bd {h l : Int} (h1 : Word h) (h2 : Word l) : 0 ≤ val h l ∧ val h l < 340282366920938463463374607431768211456 := by
  unfold Word val at *; omega

/-- Shl, for every number of places. -/
theorem shl_any (h l n : Int) (h1 : Word h) (h2 : Word l) (hn2 : n ≤ 9223372036854775807) (w : World) :
    Calls Try.prog 67 #[.agg #[.int .u64 h, .int .u64 l], .int .i64 n] w (U128Post (val h l * pw n % 340282366920938463463374607431768211456) w) := by
  by_cases h0 : n ≤ 0
  · refine (shl_none h l n h0 w).mono fun e w' ⟨he, hb⟩ => ⟨h, l, he, h1, h2, ?_, hb⟩
    have := val_bd h1 h2
    rw [pw_nonpos h0]; omega
  · by_cases h64 : n < 64
    · exact shl_mid h l n h1 h2 (by omega) h64 w
    · exact shl_far h l n (by omega) hn2 w

/-- The words of a number that is shifted down by less than a word. -/
theorem shr_words (h l n : Int) (h1 : Word h) (h2 : Word l) (hn : 0 ≤ n) (hn2 : n ≤ 64) :
    h / pw n = (val h l / pw n) / 18446744073709551616 ∧
    bits .or .u64 (l / pw n) (IntKind.u64.wrap (h * pw (64 - n))) = (val h l / pw n) % 18446744073709551616 := by
  have hs := pw_split n hn hn2
  have hp := pw_pos n
  have hq := pw_pos (64 - n)
  have hpw : pw (64 - n) = ((2 ^ (64 - n).toNat : Nat) : Int) := rfl
  obtain ⟨h, rfl⟩ := Int.eq_ofNat_of_zero_le h1.1
  obtain ⟨l, rfl⟩ := Int.eq_ofNat_of_zero_le h2.1
  generalize pw (64 - n) = q' at *
  generalize pw n = p' at *
  obtain ⟨p, rfl⟩ := Int.eq_ofNat_of_zero_le (Int.le_of_lt hp)
  obtain ⟨q, rfl⟩ := Int.eq_ofNat_of_zero_le (Int.le_of_lt hq)
  have hpq : p * q = Plain.B := Int.ofNat.inj hs
  have hpw : q = 2 ^ (64 - n).toNat := by exact_mod_cast hpw
  obtain ⟨a1, a2, a3, a4⟩ := Plain.shr_parts p q h l (by omega) (by omega) hpq (by have := h1.2; unfold Plain.B; omega) (by have := h2.2; unfold Plain.B; omega)
  have hl2 : l / p < 18446744073709551616 := Nat.lt_of_le_of_lt (Nat.div_le_self _ _) (by have := h2.2; omega)
  have e1 : IntKind.u64.wrap ((h : Int) * (q : Int)) = ((h * q % Plain.B : Nat) : Int) := by rw [IntKind.wrap_u64]; rfl
  have e3 : (l : Int) / (p : Int) = ((l / p : Nat) : Int) := rfl
  have e4 : val (h : Int) (l : Int) / (p : Int) = (((h * Plain.B + l) / p : Nat) : Int) := rfl
  have e5 : (h : Int) / (p : Int) = ((h / p : Nat) : Int) := rfl
  rw [e1, e3, e4, e5, u64_or_nat _ _ hl2 (Nat.mod_lt _ (by decide)), Nat.or_comm]
  have a3' : h * q % Plain.B % 2 ^ (64 - n).toNat = 0 := by rw [← hpw]; exact a3
  have a4' : l / p < 2 ^ (64 - n).toNat := by rw [← hpw]; exact a4
  rw [Plain.nat_join _ _ _ a3' a4', a1, a2]
  exact ⟨rfl, rfl⟩

/-- What Shr answers. -/
def ShrPost (v p : Int) (w : World) (e : Ending) (w' : World) : Prop :=
  ∃ h l : Int, ∃ o : Bool, e = .returned (.tuple #[.agg #[.int .u64 h, .int .u64 l], .bool o]) ∧ Word h ∧ Word l ∧ val h l = v / p ∧ (o = false ↔ v % p = 0) ∧ Below w.heap.size w w'

theorem val_inj {a b c d : Int} (_h1 : Word a) (h2 : Word b) (_h3 : Word c) (h4 : Word d) (h : val a b = val c d) : a = c ∧ b = d := by
  unfold Word val at *; omega
theorem U128Post.at {v r s : Int} (h1 : Word r) (h2 : Word s) (hv : val r s = v) : ∀ (w : World) (e : Ending) (w' : World), U128Post v w e w' → e = .returned (.agg #[.int .u64 r, .int .u64 s]) ∧ Below w.heap.size w w' := by
  rintro w e w' ⟨a, b, rfl, h3, h4, h, hb⟩
  obtain ⟨rfl, rfl⟩ := val_inj h1 h2 h3 h4 (hv.trans h.symm)
  exact ⟨rfl, hb⟩
theorem words (v : Int) (h0 : 0 ≤ v) (h1 : v < 340282366920938463463374607431768211456) : ∃ r s, Word r ∧ Word s ∧ val r s = v :=
  ⟨v / 18446744073709551616, v % 18446744073709551616, ⟨by omega, by omega⟩, ⟨by omega, by omega⟩, by unfold val; omega⟩

/-- What comes of Shr: the words x, y; shifted up again they are r, s. -/
theorem shr_mk (h l n x y r s : Int) (h1 : Word h) (h2 : Word l) (h3 : Word x) (h4 : Word y) (h5 : Word r) (h6 : Word s) (hxy : val x y = val h l / pw n)
    (hrs : val r s = val x y * pw n % 340282366920938463463374607431768211456) (o : Bool) (ho : o = false ↔ (r = h ∧ s = l)) (w w' : World) (hb : Below w.heap.size w w') :
    ShrPost (val h l) (pw n) w (.returned (.tuple #[.agg #[.int .u64 x, .int .u64 y], .bool o])) w' := by
  refine ⟨x, y, o, rfl, h3, h4, hxy, ?_, hb⟩
  rw [ho]
  obtain ⟨b1, b2⟩ := val_bd h1 h2
  have hp := pw_pos n
  rw [hxy] at hrs
  have hd := Int.mul_ediv_add_emod (val h l) (pw n)
  have hm := Int.emod_nonneg (val h l) (Int.ne_of_gt hp)
  have hq := Int.ediv_nonneg b1 (Int.le_of_lt hp)
  have hqp := Int.mul_nonneg hq (Int.le_of_lt hp)
  rw [Int.mul_comm] at hd
  have e : val r s = val h l / pw n * pw n := by rw [hrs]; omega
  constructor
  · rintro ⟨rfl, rfl⟩; omega
  · intro h0; exact val_inj h5 h6 h1 h2 (by omega)

set_option maxHeartbeats 400000 in
theorem shr_mid (h l n x y r s : Int) (h1 : Word h) (h2 : Word l) (hn : 0 < n) (hn2 : n < 64) (h3 : Word x) (h4 : Word y) (h5 : Word r) (h6 : Word s) (hx : h / 2 ^ n.toNat = x)
    (hy : bits .or .u64 (l / 2 ^ n.toNat) (IntKind.u64.wrap (h * 2 ^ (64 - n).toNat)) = y)
    (hrs : val r s = val x y * pw n % 340282366920938463463374607431768211456) (w : World) :
    Calls Try.prog 55 #[.agg #[.int .u64 h, .int .u64 l], .int .i64 n] w (ShrPost (val h l) (pw n) w) := by
  have hxy : val x y = val h l / pw n := by
    rw [← hx, ← hy, pw_eq, pw_eq, (shr_words h l n h1 h2 (by omega) (by omega)).1, (shr_words h l n h1 h2 (by omega) (by omega)).2]
    unfold val; generalize (h * 18446744073709551616 + l) / pw n = z; omega
  have Hm := Lib.hid (shr_mk h l n x y r s h1 h2 h3 h4 h5 h6 hxy hrs)
  have H3 := Lib.hid h3; have H4 := Lib.hid h4; have Hrs := Lib.hid (U128Post.at h5 h6 hrs); clear h3 h4 hrs hxy h5 h6
  obtain ⟨a1, a2⟩ := h1; obtain ⟨b1, b2⟩ := h2
  have hn3 : n ≤ 9223372036854775807 := by omega
  have key : ∀ b1 b2 : Bool, (r == h) = b1 → (s == l) = b2 → Calls Try.prog 55 #[.agg #[.int .u64 h, .int .u64 l], .int .i64 n] w (ShrPost (val h l) (pw n) w) := by
    intro c1 c2 k1 k2
    have Hc : Hid (∀ o : Bool, o = !(c1 && c2) → (o = false ↔ (r = h ∧ s = l))) := fun o ho => by
      subst ho; rw [← k1, ← k2]; simp
    cases c1 <;> cases c2
    all_goals
      go_enter Try.func55, Try.ntmps55
      go_wp2
      go_region
      go_wp2
      go_region_held3 (fun w' => w'.cell? ⟨w.heap.size, 0, none⟩ = some (.int .u64 h) ∧ w'.cell? ⟨w.heap.size, 1, none⟩ = some (.int .u64 l) ∧ w'.cell? ⟨w.heap.size + 1 + 1, 0, none⟩ = some (.int .u64 x) ∧ w'.cell? ⟨w.heap.size + 1 + 1, 1, none⟩ = some (.int .u64 y)) (simp [*, go_sem, World.cell?_alloc_past])
        (first
          | (go_at_call 67; refine ((shl_any x y n H3.out H4.out hn3 _).mono (Hrs.out _)).mono ?_; rintro e w' ⟨rfl, hb⟩; obtain ⟨hk, hf⟩ := bcell hb))
      have e0 : w'.cell? ⟨w.heap.size + 1, 0, none⟩ = some (.int .u64 0) := by rw [(bcell hb).1 _ _ (by simp)]; simp [go_sem, World.cell?_alloc_past]
      have e1 : w'.cell? ⟨w.heap.size + 1, 1, none⟩ = some (.int .u64 0) := by rw [(bcell hb).1 _ _ (by simp)]; simp [go_sem, World.cell?_alloc_past]
      go_wp2
      simp [bodyPost, results, Try.results55, go_sem, e0, e1]
      refine Hm.out _ (Hc.out _ rfl) _ _ ?_
      exact (((((((Below.refl _ _).alloc (Nat.le_refl _) _).alloc (by simp) _).alloc (by simp; omega) _).drew.drew).trans (hb.mono (by simp; omega))).setCell (by simp) _).setCell (by simp) _
  exact key _ _ rfl rfl

set_option maxHeartbeats 400000 in
theorem shr_none (h l n : Int) (hn : n ≤ 0) (w : World) :
    Calls Try.prog 55 #[.agg #[.int .u64 h, .int .u64 l], .int .i64 n] w fun e w' => e = .returned (.tuple #[.agg #[.int .u64 h, .int .u64 l], .bool false]) ∧ Below w.heap.size w w' := by
  go_enter Try.func55, Try.ntmps55
  go_wp2
  simp [bodyPost, results, Try.results55, go_sem]
  exact (((Below.refl _ _).alloc (Nat.le_refl _) _).alloc (by simp) _)

theorem far_div (h l n : Int) (h1 : Word h) (h2 : Word l) (hn : 64 ≤ n) : val 0 (h / 2 ^ min (n - 64).toNat 64) = val h l / pw n := by
  have e1 : pw n = 18446744073709551616 * pw (n - 64) := by rw [← pw_64, ← pw_add _ _ (by omega) (by omega)]; congr 1; omega
  rw [e1, ← Int.ediv_ediv_of_nonneg (by decide), show val h l / 18446744073709551616 = h by unfold val Word at *; omega]
  unfold val
  rw [← pw_eq]
  obtain ⟨h, rfl⟩ := Int.eq_ofNat_of_zero_le h1.1
  by_cases hm : (n - 64).toNat ≤ 64
  · rw [Nat.min_eq_left hm]; omega
  · rw [Nat.min_eq_right (by omega)]
    have e2 : (h : Int) / 2 ^ 64 = 0 := by have := h1.2; rw [show (2 : Int) ^ 64 = 18446744073709551616 from rfl]; omega
    have e3 : (h : Int) / 2 ^ (n - 64).toNat = 0 := by
      refine Int.ediv_eq_zero_of_lt (by omega) ?_
      have k : 2 ^ 64 ≤ 2 ^ (n - 64).toNat := Nat.pow_le_pow_right (by decide) (by omega)
      rw [show (2 : Nat) ^ 64 = 18446744073709551616 from rfl] at k
      have e : (2 : Int) ^ (n - 64).toNat = ((2 ^ (n - 64).toNat : Nat) : Int) := (Int.natCast_pow 2 _).symm
      rw [e]
      have := h1.2
      generalize 2 ^ (n - 64).toNat = z at *
      omega
    rw [e2, e3]; rfl

set_option maxHeartbeats 400000 in
theorem shr_far (h l n y r s : Int) (h1 : Word h) (h2 : Word l) (hn : 64 ≤ n) (hn3 : n ≤ 9223372036854775807) (h4 : Word y) (h5 : Word r) (h6 : Word s) (hy : h / 2 ^ min (n - 64).toNat 64 = y)
    (hrs : val r s = val 0 y * pw n % 340282366920938463463374607431768211456) (w : World) :
    Calls Try.prog 55 #[.agg #[.int .u64 h, .int .u64 l], .int .i64 n] w (ShrPost (val h l) (pw n) w) := by
  have h3 : Word 0 := by unfold Word; decide
  have hxy : val 0 y = val h l / pw n := by rw [← hy]; exact far_div h l n h1 h2 hn
  have Hm := Lib.hid (shr_mk h l n 0 y r s h1 h2 h3 h4 h5 h6 hxy hrs)
  have H3 := Lib.hid h3; have H4 := Lib.hid h4; have Hrs := Lib.hid (U128Post.at h5 h6 hrs); clear h3 h4 hrs hxy h5 h6
  obtain ⟨a1, a2⟩ := h1; obtain ⟨b1, b2⟩ := h2
  have key : ∀ b1 b2 : Bool, (r == h) = b1 → (s == l) = b2 → Calls Try.prog 55 #[.agg #[.int .u64 h, .int .u64 l], .int .i64 n] w (ShrPost (val h l) (pw n) w) := by
    intro c1 c2 k1 k2
    have Hc : Hid (∀ o : Bool, o = !(c1 && c2) → (o = false ↔ (r = h ∧ s = l))) := fun o ho => by
      subst ho; rw [← k1, ← k2]; simp
    cases c1 <;> cases c2
    all_goals
      go_enter Try.func55, Try.ntmps55
      go_wp2
      go_region_held3 (fun w' => w'.cell? ⟨w.heap.size, 0, none⟩ = some (.int .u64 h) ∧ w'.cell? ⟨w.heap.size, 1, none⟩ = some (.int .u64 l) ∧ w'.cell? ⟨w.heap.size + 1 + 1, 0, none⟩ = some (.int .u64 0) ∧ w'.cell? ⟨w.heap.size + 1 + 1, 1, none⟩ = some (.int .u64 y)) (simp [*, go_sem, World.cell?_alloc_past])
        (first
          | (go_at_call 67; refine ((shl_any 0 y n H3.out H4.out hn3 _).mono (Hrs.out _)).mono ?_; rintro e w' ⟨rfl, hb⟩; obtain ⟨hk, hf⟩ := bcell hb))
      have e0 : w'.cell? ⟨w.heap.size + 1, 0, none⟩ = some (.int .u64 0) := by rw [(bcell hb).1 _ _ (by simp)]; simp [go_sem, World.cell?_alloc_past]
      have e1 : w'.cell? ⟨w.heap.size + 1, 1, none⟩ = some (.int .u64 0) := by rw [(bcell hb).1 _ _ (by simp)]; simp [go_sem, World.cell?_alloc_past]
      go_wp2
      simp [bodyPost, results, Try.results55, go_sem, e0, e1]
      refine Hm.out _ (Hc.out _ rfl) _ _ ?_
      exact ((((((Below.refl _ _).alloc (Nat.le_refl _) _).alloc (by simp) _).alloc (by simp; omega) _).drew.trans (hb.mono (by simp; omega))).setCell (by simp) _).setCell (by simp) _
  exact key _ _ rfl rfl

/-- Shr, for every number of places. -/
theorem shr_any (h l n : Int) (h1 : Word h) (h2 : Word l) (hn2 : n ≤ 9223372036854775807) (w : World) :
    Calls Try.prog 55 #[.agg #[.int .u64 h, .int .u64 l], .int .i64 n] w (ShrPost (val h l) (pw n) w) := by
  by_cases h0 : n ≤ 0
  · refine (shr_none h l n h0 w).mono fun e w' ⟨he, hb⟩ => ⟨h, l, false, he, h1, h2, ?_, ?_, hb⟩
    · rw [pw_nonpos h0]; omega
    · rw [pw_nonpos h0]; simp
  · by_cases h64 : n < 64
    · obtain ⟨e1, e2⟩ := shr_words h l n h1 h2 (by omega) (by omega)
      have bd := val_bd h1 h2
      have hp := pw_pos n
      have q1 := Int.ediv_nonneg bd.1 (Int.le_of_lt hp)
      have q2 : val h l / pw n ≤ val h l := Int.ediv_le_self _ bd.1
      rw [← pw_eq] at e1 e2
      rw [← pw_eq (64 - n)] at e2
      obtain ⟨r, s, h5, h6, hrs⟩ := words (val (h / 2 ^ n.toNat) (bits .or .u64 (l / 2 ^ n.toNat) (IntKind.u64.wrap (h * 2 ^ (64 - n).toNat))) * pw n % 340282366920938463463374607431768211456) (mod_bd _).1 (mod_bd _).2
      rw [← pw_eq] at q1 q2
      exact shr_mid h l n _ _ r s h1 h2 (by omega) h64 (by rw [e1]; unfold Word; omega) (by rw [e2]; unfold Word; omega) h5 h6 rfl rfl hrs w
    · have hy : Word (h / 2 ^ min (n - 64).toNat 64) := by
        have e : (2 : Int) ^ min (n - 64).toNat 64 = ((2 ^ min (n - 64).toNat 64 : Nat) : Int) := (Int.natCast_pow 2 _).symm
        have hp : (0 : Int) < 2 ^ min (n - 64).toNat 64 := by rw [e]; exact Int.natCast_pos.2 (Nat.two_pow_pos _)
        have := Int.ediv_le_self (2 ^ min (n - 64).toNat 64) h1.1
        exact ⟨Int.ediv_nonneg h1.1 (Int.le_of_lt hp), by have := h1.2; omega⟩
      obtain ⟨r, s, h5, h6, hrs⟩ := words (val 0 (h / 2 ^ min (n - 64).toNat 64) * pw n % 340282366920938463463374607431768211456) (mod_bd _).1 (mod_bd _).2
      exact shr_far h l n _ r s h1 h2 (by omega) hn2 hy h5 h6 rfl hrs w
end Go.Proofs.Ytomeidbigofnaaa
