/-
  The document's answers to layer 2 (tabardref2): Nat, Part, End, Add, Sub; the law's own nat, is.
-/
import Derived.Test.YtogldkjhcmlneaaL5
import Derived.Test.YtogldkjhcmlneaaW3
namespace Go.Proofs.Ytogldkjhcmlneaa
open Go.RowKit Go.Shelf

theorem Sl.drewN {w : World} {B : Nat} {A : Option Addr} {n c : Nat} {l : List Int} (h : Sl w B A n c l) (k : Nat) : Sl (w.drewN k) B A n c l := h.keep fun _ _ _ => rfl
/-- A contract that leaves the world alone, at a quiet region's call. -/
theorem qcall {P : Program} {f : FuncId} {args : Array Value} {w : World} {n : Nat} {v : Value} (h : Calls P f args (w.drewN n) fun e w' => e = .returned v ∧ w.drewN n = w') :
    Calls P f args (w.drewN n) fun e w'' => e = .returned v ∧ ∃ m, w'' = w.drewN m := h.mono fun _ _ ⟨he, hm⟩ => ⟨he, n, hm.symm⟩
theorem NatPost.mk {A : Option Addr} {n c : Nat} {l : List Int} {v : Int} {w w' : World} (hs : Sl w' w'.heap.size A n c l) (hn : Norm l) (hv : natV l = v) (fr : Fresh w.heap.size A) (hb : Below w.heap.size w w') : NatPost v w (.returned (.slice A n c)) w' := ⟨A, n, c, l, rfl, hs, hn, hv, fr, hb⟩

/-- A literal of limbs is a slice of the call's own. -/
theorem lit_own (w : World) (l : List Int) (n : Nat) (hn : l.length = n) (hm : n ≤ 1000) : (w.alloc (.cells (l.map (Value.int .u32)).toArray 71)).ownsRow w.heap.size 71 1 (.slice (some ⟨w.heap.size, 0, none⟩) n n) n (l.map (Value.int .u32)) := by
  have := World.ownsRow_lit (base := w.heap.size) (e := 71) (size := 1) w (l.map (Value.int .u32)).toArray n (Nat.le_refl _) (by unfold maxLen; omega) (by simpa using hn)
  simpa using this
theorem below_new (w : World) (o : Obj) : Below w.heap.size w (w.alloc o) := (Below.refl _ _).alloc (Nat.le_refl _) _

set_option maxHeartbeats 1000000 in
theorem rnat_any (a b c : Int) (ha : Word a) (hb : Word b) (hc : Word c) (w : World) :
    Calls Try.prog 17 #[.int .u64 a, .int .u64 b, .int .u64 c] w (NatPost (val3 a b c) w) := by
  obtain ⟨a0, a1⟩ := ha; obtain ⟨b0, b1⟩ := hb; obtain ⟨c0, c1⟩ := hc
  have hl : ∀ x ∈ [c % 4294967296, c / 4294967296, b % 4294967296, b / 4294967296, a % 4294967296, a / 4294967296], Limb x := by
    intro x hx
    simp only [List.mem_cons, List.not_mem_nil, or_false] at hx
    rcases hx with rfl | rfl | rfl | rfl | rfl | rfl <;> exact ⟨by omega, by omega⟩
  have hv : natV [c % 4294967296, c / 4294967296, b % 4294967296, b / 4294967296, a % 4294967296, a / 4294967296] = val3 a b c := by
    unfold val3; simp only [natV]; omega
  have HT : Hid (∀ W : World, W = w.alloc (.cells #[.int .u32 (c % 4294967296), .int .u32 (c / 4294967296), .int .u32 (b % 4294967296), .int .u32 (b / 4294967296), .int .u32 (a % 4294967296), .int .u32 (a / 4294967296)] 71) → Calls Try.prog 44 #[.slice (some ⟨w.heap.size, 0, none⟩) 6 6] W (NatPost (val3 a b c) w)) := by
    rintro W rfl
    exact trim_own (lit_own w _ 6 rfl (by omega)) hl (by omega) (below_new _ _) hv
  clear hl hv
  go_enter Try.func17, Try.ntmps17
  go_wp2_with fail
  refine (HT.out _ rfl).mono ?_
  intro e w2 hp
  obtain ⟨A2, n2, c2, l2, rfl, hs2, hn2, hv2, fr2, hb2⟩ := hp
  have hp := Lib.hid (NatPost.mk hs2 hn2 hv2 fr2 hb2)
  clear hs2 hn2 hv2 hb2
  go_wp2
  go_ret
  exact hp.out

theorem rend_any (w : World) : Calls Try.prog 40 #[] w (NatPost 340282366920938463463374607431768211456 w) := by
  have fin : Hid (NatPost 340282366920938463463374607431768211456 w (.returned (.slice (some ⟨w.heap.size, 0, none⟩) 5 5)) (w.alloc (.cells #[.int .u32 0, .int .u32 0, .int .u32 0, .int .u32 0, .int .u32 1] 71))) := by
    have hl : ∀ x ∈ ([0, 0, 0, 0, 1] : List Int), Limb x := by
      intro x hx
      simp only [List.mem_cons, List.not_mem_nil, or_false] at hx
      rcases hx with rfl | rfl | rfl | rfl | rfl <;> exact ⟨by decide, by decide⟩
    obtain ⟨A, c, e, hs, fr⟩ := Sl.of_own (lit_own w [0, 0, 0, 0, 1] 5 rfl (by omega)) hl
    rw [e]
    refine NatPost.mk hs ?_ (by decide) fr (below_new _ _)
    intro j hj ej
    have : j = 4 := by simp at ej; omega
    subst this; simp
  go_enter Try.func40, Try.ntmps40
  go_wp2
  go_ret
  exact fin.out

/-- 64 bits of a number. -/
def partI (v : Int) (i : Nat) : Int := v / pw (64 * (i : Int)) % 18446744073709551616
theorem part_dig {l : List Int} (hl : ∀ x ∈ l, Limb x) (i : Nat) : partI (natV l) i = digV l (2 * i + 1) * 4294967296 + digV l (2 * i) := by
  have d0 := natV_dig hl (2 * i)
  have d1 := natV_dig hl (2 * i + 1)
  rw [pw32, show 32 * ((2 * i : Nat) : Int) = 64 * (i : Int) by omega, Int.mul_comm, ← Int.ediv_ediv_of_nonneg (Int.le_of_lt (pw_pos _))] at d1
  rw [show 32 * ((2 * i : Nat) : Int) = 64 * (i : Int) by omega] at d0
  unfold partI
  generalize natV l / pw (64 * (i : Int)) = q at *
  omega

set_option maxHeartbeats 1000000 in
theorem part_any (A : Option Addr) (n c : Nat) (l : List Int) (i : Nat) (p : Int) (w : World) (h : Sl w w.heap.size A n c l) (hi : i ≤ 1000) (hp : partI (natV l) i = p) :
    Calls Try.prog 28 #[.slice A n c, .int .i64 (i : Int)] w fun e w' => e = .returned (.int .u64 p) ∧ w = w' := by
  rw [part_dig h.lim] at hp
  obtain ⟨x0, x1⟩ := digV_limb h.lim (2 * i + 1)
  obtain ⟨y0, y1⟩ := digV_limb h.lim (2 * i)
  have hx : Hid (n ≤ 2 * i + 1 → digV l (2 * i + 1) = 0) := fun hh => digV_ge (by rw [h.len]; exact hh)
  have hy : Hid (n ≤ 2 * i → digV l (2 * i) = 0) := fun hh => digV_ge (by rw [h.len]; exact hh)
  have HC : Hid (∀ j, j < n → ∃ b o, A = some ⟨b, o, none⟩ ∧ w.cell? ⟨b, o + j, none⟩ = some (.int .u32 (digV l j))) := fun j hj => by
    rcases h.rd with h0 | ⟨b, o, hA, hb, hc⟩
    · omega
    · exact ⟨b, o, hA, by rw [hc j (by rw [h.len]; exact hj), digV_lt]⟩
  have hcap := h.cap
  have hmax := h.max
  unfold maxLen at hmax
  obtain ⟨j, hj⟩ : ∃ j, 2 * i = j := ⟨_, rfl⟩
  have hii : 2 * (i : Int) = (j : Int) := by omega
  rw [hj] at x0 x1 y0 y1 hx hy hp
  have HP := Lib.hid hp
  have jb : (j : Int) ≤ 2000 := by omega
  clear h hp hj
  generalize hX : digV l (j + 1) = x at *
  generalize hY : digV l j = y at *
  have HX := Lib.hid hX; have HY := Lib.hid hY
  clear hX hY
  go_enter Try.func28, Try.ntmps28
  go_wp2
  go_loopw [5, 6] (fun v k wr => ∃ q : Int, k = .int .i64 q ∧ ((q = 1 ∧ v = .int .u64 0) ∨ (q = 0 ∧ v = .int .u64 x) ∨ (q = -1 ∧ v = .int .u64 (x * 4294967296 + y))) ∧ w = wr) (fun _ k _ => (intOf k + 1).toNat)
  case atStart => exact ⟨1, rfl, .inl ⟨rfl, rfl⟩, rfl⟩
  case round =>
    obtain ⟨q, rfl, hq, rfl⟩ := hrel
    rcases hq with ⟨rfl, rfl⟩ | ⟨rfl, rfl⟩ | ⟨rfl, rfl⟩
    · by_cases c1 : j + 1 < n
      · obtain ⟨b, o, rfl, cell⟩ := HC.out _ c1
        rw [HX.out] at cell
        have c2 : (j : Int) + 1 < (n : Int) := by omega
        clear HC hx hy HX HY
        go_wp2
        go_roundw
        case rel => exact ⟨0, rfl, .inr (.inl ⟨rfl, by go_num⟩), by first | trivial | rfl⟩
        case measure => simp [intOf]
      · have ex : Hid (x = 0) := hx.out (by omega)
        have c2 : (n : Int) ≤ (j : Int) + 1 := by omega
        clear HC hx hy HX HY
        go_wp2
        go_roundw
        case rel => exact ⟨0, rfl, .inr (.inl ⟨rfl, by first | (rw [ex.out]; done) | (rw [ex.out]; go_num)⟩), by first | trivial | rfl⟩
        case measure => simp [intOf]
    · by_cases c1 : j < n
      · obtain ⟨b, o, rfl, cell⟩ := HC.out _ c1
        rw [HY.out] at cell
        have c2 : (j : Int) < (n : Int) := by omega
        clear HC hx hy HX HY
        go_wp2
        go_roundw
        case rel => exact ⟨-1, rfl, .inr (.inr ⟨rfl, by go_num⟩), by first | trivial | rfl⟩
        case measure => simp [intOf]
      · have ex : Hid (y = 0) := hy.out (by omega)
        have c2 : (n : Int) ≤ (j : Int) := by omega
        clear HC hx hy HX HY
        go_wp2
        go_roundw
        case rel => exact ⟨-1, rfl, .inr (.inr ⟨rfl, by first | (rw [ex.out]; done) | (rw [ex.out]; go_num)⟩), by first | trivial | rfl⟩
        case measure => simp [intOf]
    · clear HC hx hy HX HY
      go_wp2
      go_ret
      exact ⟨by rw [← HP.out]; rfl, rfl⟩

theorem val_nonneg {h l : Int} (h1 : Word h) (h2 : Word l) : 0 ≤ val h l ∧ val h l < 340282366920938463463374607431768211456 := by
  unfold val Word at *; omega
theorem part_val1 (h l : Int) (h1 : Word h) (h2 : Word l) : partI (val h l) 1 = h := by
  unfold partI val Word at *; rw [show pw (64 * ((1 : Nat) : Int)) = 18446744073709551616 from rfl]; omega
theorem part_val0 (h l : Int) (h2 : Word l) : partI (val h l) 0 = l := by
  unfold partI val Word at *; rw [show pw (64 * ((0 : Nat) : Int)) = 1 from rfl]; omega

/-- The law's own 'is', where it is so. -/
def TrueBelow (w : World) (e : Ending) (w' : World) : Prop := e = .returned (.bool true) ∧ Below w.heap.size w w'
set_option maxHeartbeats 1000000 in
theorem is_true (A : Option Addr) (n c : Nat) (l : List Int) (hi lo : Int) (w : World) (h : Sl w w.heap.size A n c l) (hN : Norm l) (h1 : Word hi) (h2 : Word lo) (hv : natV l = val hi lo) :
    Calls Try.prog 14 #[.agg #[.int .u64 hi, .int .u64 lo], .slice A n c] w (TrueBelow w) := by
  have hn4 : n ≤ 4 := by
    rw [← h.len]
    refine norm_len h.lim hN ?_
    rw [hv, show pw (32 * ((4 : Nat) : Int)) = 340282366920938463463374607431768211456 from rfl]
    exact (val_nonneg h1 h2).2
  have hw := (h.below (below_new w (.cells #[.int .u64 hi, .int .u64 lo] 24))).more (show w.heap.size ≤ (w.alloc (.cells #[.int .u64 hi, .int .u64 lo] 24)).heap.size by simp)
  have hb := below_new w (.cells #[.int .u64 hi, .int .u64 lo] 24)
  have c0 : (w.alloc (.cells #[.int .u64 hi, .int .u64 lo] 24)).cell? ⟨w.heap.size, 0, none⟩ = some (.int .u64 hi) := by simp [go_sem]
  have c1 : (w.alloc (.cells #[.int .u64 hi, .int .u64 lo] 24)).cell? ⟨w.heap.size, 1, none⟩ = some (.int .u64 lo) := by simp [go_sem]
  have K1 := Lib.hid (fun k => part_any A n c l 1 hi ((w.alloc (.cells #[.int .u64 hi, .int .u64 lo] 24)).drewN k) (hw.drewN k) (by omega) (by rw [hv]; exact part_val1 _ _ h1 h2))
  have K0 := Lib.hid (fun k => part_any A n c l 0 lo ((w.alloc (.cells #[.int .u64 hi, .int .u64 lo] 24)).drewN k) (hw.drewN k) (by omega) (by rw [hv]; exact part_val0 _ _ h2))
  have HB := Lib.hid hb
  have hn5 : (n : Int) ≤ 4 := by omega
  clear h hN h1 h2 hv hw hb
  go_enter Try.func14, Try.ntmps14
  go_wp2
  generalize w.alloc (.cells #[.int .u64 hi, .int .u64 lo] 24) = w1 at *
  go_quiet (first | (go_at_call_of 28 (Value.int IntKind.i64 1); exact qcall (K1.out _)) | (go_at_call_of 28 (Value.int IntKind.i64 0); exact qcall (K0.out _)))
  go_wp2
  go_ret
  exact ⟨by simp, below_drewN HB.out _⟩

set_option maxHeartbeats 1000000 in
theorem lnat_any (hi lo : Int) (h1 : Word hi) (h2 : Word lo) (w : World) :
    Calls Try.prog 9 #[.agg #[.int .u64 hi, .int .u64 lo]] w (NatPost (val hi lo) w) := by
  have HB := Lib.hid (below_new w (.cells #[.int .u64 hi, .int .u64 lo] 24))
  have e : val3 0 hi lo = val hi lo := by unfold val3 val; omega
  have HN := Lib.hid (fun W => rnat_any 0 hi lo ⟨by decide, by decide⟩ h1 h2 W)
  rw [e] at HN
  clear h1 h2 e
  go_enter Try.func9, Try.ntmps9
  go_wp2_with fail
  refine (HN.out _).mono ?_
  intro e w2 hp
  have hp := hp.on HB.out rfl
  obtain ⟨A2, n2, c2, l2, rfl, hs2, hn2, hv2, fr2, hb2⟩ := hp
  have hp := Lib.hid (NatPost.mk hs2 hn2 hv2 fr2 hb2)
  clear hs2 hn2 hv2 hb2
  go_wp2
  go_ret
  exact hp.out

/-- A natural and a bool. -/
def NatBPost (P : Int → Bool → Prop) (w : World) (e : Ending) (w' : World) : Prop :=
  ∃ A n c l o, e = .returned (.tuple #[.slice A n c, .bool o]) ∧ Sl w' w'.heap.size A n c l ∧ Norm l ∧ P (natV l) o ∧ Below w.heap.size w w'
theorem small_len {l : List Int} (hl : ∀ x ∈ l, Limb x) (hn : Norm l) (h : natV l < 115792089237316195423570985008687907853269984665640564039457584007913129639936) : l.length ≤ 8 :=
  norm_len hl hn (by rw [show pw (32 * ((8 : Nat) : Int)) = 115792089237316195423570985008687907853269984665640564039457584007913129639936 from rfl]; exact h)
theorem Sl.small {w : World} {B : Nat} {A : Option Addr} {n c : Nat} {l : List Int} (h : Sl w B A n c l) (hn : Norm l) (hv : natV l < 115792089237316195423570985008687907853269984665640564039457584007913129639936) : n ≤ 8 := by
  rw [← h.len]; exact small_len h.lim hn hv
theorem radd_mk {x y : Int} {w w' : World} {A : Option Addr} {n c : Nat} {l : List Int} {o : Bool} (hs : Sl w' w'.heap.size A n c l) (hn : Norm l) (hb : Below w.heap.size w w')
    (h : (o = true ∧ natV l + 340282366920938463463374607431768211456 = x + y) ∨ (o = false ∧ natV l = x + y ∧ natV l < 340282366920938463463374607431768211456)) :
    NatBPost (fun v o => (o = true ∧ v + 340282366920938463463374607431768211456 = x + y) ∨ (o = false ∧ v = x + y ∧ v < 340282366920938463463374607431768211456)) w (.returned (.tuple #[.slice A n c, .bool o])) w' := ⟨A, n, c, l, o, rfl, hs, hn, h, hb⟩

set_option maxHeartbeats 2000000 in
theorem radd_any (A B : Option Addr) (n m c d : Nat) (a b : List Int) (w : World) (h : Sl w w.heap.size A n c a) (h' : Sl w w.heap.size B m d b) (hn : n ≤ 8) (hm : m ≤ 8)
    (v1 : natV a < 340282366920938463463374607431768211456) (v2 : natV b < 340282366920938463463374607431768211456) :
    Calls Try.prog 11 #[.slice A n c, .slice B m d] w (NatBPost (fun v o => (o = true ∧ v + 340282366920938463463374607431768211456 = natV a + natV b) ∨ (o = false ∧ v = natV a + natV b ∧ v < 340282366920938463463374607431768211456)) w) := by
  have HP := Lib.hid (rplus_any A B n m c d a b w h h' (by omega) (by omega))
  have Hv := Lib.hid (show natV a + natV b < 115792089237316195423570985008687907853269984665640564039457584007913129639936 by omega)
  clear h h' v1 v2
  go_enter Try.func11, Try.ntmps11
  go_wp2_with fail
  refine HP.out.mono ?_
  rintro e w1 ⟨A1, n1, c1, l1, rfl, hs1, hn1, hv1, fr1, hb1⟩
  have n1b : n1 ≤ 8 := hs1.small hn1 (by rw [hv1]; exact Hv.out)
  have hv1 := Lib.hid hv1
  go_wp2_with fail
  refine (rend_any w1).mono ?_
  rintro e w2 ⟨A2, n2, c2, l2, rfl, hs2, hn2, hv2, fr2, hb2⟩
  have n2b : n2 ≤ 8 := hs2.small hn2 (by rw [hv2]; decide)
  have hv2 := Lib.hid hv2
  have hs1 := hs1.on hb2
  have hb2 := hb1.trans (hb2.mono hb1.size)
  clear hb1
  go_wp2_with fail
  refine (rcmp_any A1 A2 n1 n2 c1 c2 l1 l2 w2 hs1 hs2 (by omega) (by omega)).mono ?_
  rintro e w3 ⟨rfl, hb3⟩
  have hs1 := hs1.on hb3
  have hs2 := hs2.on hb3
  have hb3 := hb2.trans (hb3.mono hb2.size)
  clear hb2
  by_cases cc : natV l1 < natV l2
  · have e1 : cmpI (natV l1) (natV l2) = -1 := by unfold cmpI; rw [if_pos cc]
    have fin := Lib.hid (radd_mk (x := natV a) (y := natV b) (o := false) hs1 hn1 hb3 (.inr ⟨rfl, hv1.out, by rw [hv2.out] at cc; exact cc⟩))
    rw [e1]
    clear hs1 hs2 hn1 hn2 hb3 cc e1
    go_wp2
    go_ret2
    exact fin.out
  · have e1 : Hid (0 ≤ cmpI (natV l1) (natV l2)) := by unfold cmpI Hid; rw [if_neg cc]; split <;> decide
    have HL := Lib.hid (rless_any A1 A2 n1 n2 c1 c2 l1 l2 w3 hs1 hs2 (by omega) (by omega) (by omega))
    obtain ⟨r, hr⟩ : ∃ r, cmpI (natV l1) (natV l2) = r := ⟨_, rfl⟩
    rw [hr] at e1
    rw [hr]
    have e1 := e1.out
    clear hs1 hs2 hr
    go_wp2_with fail
    refine HL.out.mono ?_
    rintro e w4 ⟨A3, n3, c3, l3, rfl, hs3, hn3, hv3, fr4, hb4⟩
    have fin := Lib.hid (radd_mk (x := natV a) (y := natV b) (o := true) hs3 hn3 (hb3.trans (hb4.mono hb3.size)) (.inl ⟨rfl, by rw [hv3, hv1.out, hv2.out]; omega⟩))
    clear hs3 hn3 hb3 hb4 hv3 cc
    go_wp2
    go_ret2
    exact fin.out

theorem rsub_mk {x y : Int} {w w' : World} {A : Option Addr} {n c : Nat} {l : List Int} {o : Bool} (hs : Sl w' w'.heap.size A n c l) (hn : Norm l) (hb : Below w.heap.size w w')
    (h : (o = true ∧ natV l = x - y + 340282366920938463463374607431768211456 ∧ x < y) ∨ (o = false ∧ natV l = x - y ∧ y ≤ x)) :
    NatBPost (fun v o => (o = true ∧ v = x - y + 340282366920938463463374607431768211456 ∧ x < y) ∨ (o = false ∧ v = x - y ∧ y ≤ x)) w (.returned (.tuple #[.slice A n c, .bool o])) w' := ⟨A, n, c, l, o, rfl, hs, hn, h, hb⟩
set_option maxHeartbeats 2000000 in
theorem rsub_any (A B : Option Addr) (n m c d : Nat) (a b : List Int) (w : World) (h : Sl w w.heap.size A n c a) (h' : Sl w w.heap.size B m d b) (hn : n ≤ 8) (hm : m ≤ 8)
    (v1 : natV a < 340282366920938463463374607431768211456) (v2 : natV b < 340282366920938463463374607431768211456) :
    Calls Try.prog 13 #[.slice A n c, .slice B m d] w (NatBPost (fun v o => (o = true ∧ v = natV a - natV b + 340282366920938463463374607431768211456 ∧ natV a < natV b) ∨ (o = false ∧ v = natV a - natV b ∧ natV b ≤ natV a)) w) := by
  have HC := Lib.hid (rcmp_any A B n m c d a b w h h' (by omega) (by omega))
  have H1 := Lib.hid h; have H2 := Lib.hid h'
  have p1 := Lib.hid (natV_nonneg h.lim); have p2 := Lib.hid (natV_nonneg h'.lim)
  have V1 := Lib.hid v1; have V2 := Lib.hid v2
  clear h h' v1 v2
  go_enter Try.func13, Try.ntmps13
  go_wp2_with fail
  refine HC.out.mono ?_
  rintro e w1 ⟨rfl, hb1⟩
  have hs1 := H1.out.on hb1
  have hs2 := H2.out.on hb1
  by_cases cc : natV a < natV b
  · have e1 : cmpI (natV a) (natV b) = -1 := by unfold cmpI; rw [if_pos cc]
    rw [e1]
    clear e1 H1 H2
    have cc := Lib.hid cc
    go_wp2_with fail
    refine (rend_any w1).mono ?_
    rintro e w2 ⟨A2, n2, c2, l2, rfl, hs3, hn3, hv3, fr2, hb2⟩
    have n2b : n2 ≤ 8 := hs3.small hn3 (by rw [hv3]; decide)
    have hv3 := Lib.hid hv3
    have hs1 := hs1.on hb2
    have hs2 := hs2.on hb2
    have hb2 := hb1.trans (hb2.mono hb1.size)
    clear hb1
    go_wp2_with fail
    refine (rplus_any A A2 n n2 c c2 a l2 w2 hs1 hs3 (by omega) (by omega)).mono ?_
    rintro e w3 ⟨A4, n4, c4, l4, rfl, hs4, hn4, hv4, fr3, hb3⟩
    have n4b : n4 ≤ 8 := hs4.small hn4 (by rw [hv4, hv3.out]; have := V1.out; omega)
    have hv4 := Lib.hid hv4
    have hs2 := hs2.on hb3
    have hb3 := hb2.trans (hb3.mono hb2.size)
    clear hb2 hs1 hs3
    go_wp2_with fail
    refine (rless_any A4 B n4 m c4 d l4 b w3 hs4 hs2 (by omega) (by omega) (by rw [hv4.out, hv3.out]; have := V2.out; have := p1.out; omega)).mono ?_
    rintro e w4 ⟨A5, n5, c5, l5, rfl, hs5, hn5, hv5, fr4, hb4⟩
    have fin := Lib.hid (rsub_mk (x := natV a) (y := natV b) (o := true) hs5 hn5 (hb3.trans (hb4.mono hb3.size)) (.inl ⟨rfl, by rw [hv5, hv4.out, hv3.out]; omega, cc.out⟩))
    clear hs5 hn5 hb3 hb4 hv5 hs4 hs2
    go_wp2
    go_ret2
    exact fin.out
  · have e1 : Hid (0 ≤ cmpI (natV a) (natV b)) := by unfold cmpI Hid; rw [if_neg cc]; split <;> decide
    have HL := Lib.hid (rless_any A B n m c d a b w1 hs1 hs2 (by omega) (by omega) (by omega))
    obtain ⟨r, hr⟩ : ∃ r, cmpI (natV a) (natV b) = r := ⟨_, rfl⟩
    rw [hr] at e1
    rw [hr]
    have e1 := e1.out
    have cc := Lib.hid cc
    clear hs1 hs2 hr H1 H2
    go_wp2_with fail
    refine HL.out.mono ?_
    rintro e w4 ⟨A3, n3, c3, l3, rfl, hs3, hn3, hv3, fr4, hb4⟩
    have fin := Lib.hid (rsub_mk (x := natV a) (y := natV b) (o := false) hs3 hn3 (hb1.trans (hb4.mono hb1.size)) (.inr ⟨rfl, hv3, by have := cc.out; omega⟩))
    clear hs3 hn3 hb4 hv3
    go_wp2
    go_ret2
    exact fin.out
end Go.Proofs.Ytogldkjhcmlneaa
