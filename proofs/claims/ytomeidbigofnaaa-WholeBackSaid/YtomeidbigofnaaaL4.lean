/-
  The document's naturals: Less, Twice.
-/
import Derived.Test.YtomeidbigofnaaaL3
namespace Go.Proofs.Ytomeidbigofnaaa
open Go.RowKit Go.Shelf

/-- k limbs of a difference, and what is borrowed. -/
structure LessAt (a b : List Int) (k : Nat) (o : List Int) (cy : Int) : Prop where
  len : o.length = k
  lim : ∀ x ∈ o, Limb x
  v : natV o + natV (b.take k) = natV (a.take k) + cy * pw (32 * (k : Int))
theorem less_step {a b o : List Int} {k : Nat} {cy x y c z : Int} (h : LessAt a b k o cy) (hx : x = digV a k) (hy : y = digV b k + cy) (hz : z = x + 4294967296 * c - y) (hl : Limb z) : LessAt a b (k + 1) (o ++ [z]) c := by
  obtain ⟨h1, h2, h3⟩ := h
  refine ⟨by simp [h1], limbs_snoc h2 hl, ?_⟩
  rw [natV_snoc, natV_take_dig, natV_take_dig, pw32, h1]
  subst hz hx hy
  generalize pw (32 * (k : Int)) = p at *
  rw [Int.mul_sub, Int.mul_add, Int.mul_add]
  rw [Int.mul_comm cy p] at h3
  rw [Int.mul_comm c, Int.mul_assoc 4294967296 p c, Int.mul_left_comm p 4294967296 c]
  omega
theorem less_end {a b o : List Int} {cy : Int} (ha : ∀ x ∈ a, Limb x) (hb : ∀ x ∈ b, Limb x) (h : LessAt a b a.length o cy) (hle : natV b ≤ natV a) (c0 : 0 ≤ cy) : natV o = natV a - natV b := by
  obtain ⟨h1, h2, h3⟩ := h
  rw [natV_take_all (Nat.le_refl _)] at h3
  have l1 := natV_lt h2
  have l2 := natV_lt ha
  have l3 := natV_take_le hb a.length
  rw [h1] at l1
  have hp := pw_pos (32 * (a.length : Int))
  have e : natV (b.take a.length) = natV b := by
    rcases Nat.lt_or_ge a.length b.length with c | c
    · have s := natV_split b a.length (by omega)
      have d0 := natV_nonneg (limbs_drop hb a.length)
      have t0 := natV_nonneg (limbs_take hb a.length)
      rcases Int.lt_or_le 0 (natV (b.drop a.length)) with g | g
      · have := Int.mul_le_mul_of_nonneg_left (show 1 ≤ natV (b.drop a.length) by omega) (Int.le_of_lt hp)
        omega
      · have : natV (b.drop a.length) = 0 := by omega
        rw [this] at s; omega
    · exact natV_take_all c
  rw [e] at h3
  rcases Int.lt_or_le 0 cy with g | g
  · have := Int.mul_le_mul_of_nonneg_right (show 1 ≤ cy by omega) (Int.le_of_lt hp)
    omega
  · have : cy = 0 := by omega
    rw [this] at h3; omega

set_option maxHeartbeats 2000000 in
theorem rless_any (A B : Option Addr) (n m c d : Nat) (a b : List Int) (w : World) (h : Sl w w.heap.size A n c a) (h' : Sl w w.heap.size B m d b) (hn : n ≤ 100000000) (_hm : m ≤ 100000000) (hle : natV b ≤ natV a) :
    Calls Try.prog 65 #[.slice A n c, .slice B m d] w (NatPost (natV a - natV b) w) := by
  have HA := Lib.hid h; have HB := Lib.hid h'
  have st := Lib.hid (fun k o cy x y c z => @less_step a b o k cy x y c z)
  have la := Lib.hid h.len
  have fin := Lib.hid (fun o cy h1 => @less_end a b o cy h.lim h'.lim h1 hle)
  have da := Lib.hid (digV_limb h.lim); have db := Lib.hid (digV_limb h'.lim)
  clear h h' hle
  go_enter Try.func65, Try.ntmps65
  go_wp2
  go_loopw [5, 6, 7] (fun v cc i wr => ∃ k : Nat, ∃ o : List Int, ∃ cy : Int, i = .int .i64 (k : Int) ∧ cc = .int .u64 cy ∧ 0 ≤ cy ∧ cy ≤ 1 ∧ k ≤ n ∧ wr.ownsRow w.heap.size 62 1 v k (o.map (Value.int .u32)) ∧ Below w.heap.size w wr ∧ LessAt a b k o cy) (fun _ _ i _ => n - (intOf i).toNat)
  case atStart => exact ⟨0, [], 0, rfl, rfl, by decide, by decide, by omega, ⟨rfl, .inl ⟨rfl, rfl⟩⟩, Below.refl _ _, ⟨rfl, by simp, by simp [natV]⟩⟩
  case round =>
    obtain ⟨k, o, cy, rfl, rfl, c0, c1, hk, hown, hB, hP⟩ := hrel
    have k0 : (k : Int) ≤ 100000000 := by omega
    by_cases hlt : k < n
    · have HAw := Lib.hid ((HA.out.below hB).more hB.size)
      have HBw := Lib.hid ((HB.out.below hB).more hB.size)
      obtain ⟨x0, x1⟩ := da.out k
      obtain ⟨y0, y1⟩ := db.out k
      have CA := Lib.hid (limb_any A n c a k wr HAw.out (by omega))
      have CB := Lib.hid (limb_any B m d b k wr HBw.out (by omega))
      have stp := Lib.hid (fun c z (h1 : z = digV a k + 4294967296 * c - (digV b k + cy)) (h2 : Limb z) => st.out k o cy _ _ c z hP rfl rfl h1 h2)
      generalize digV a k = x at *
      generalize digV b k = y at *
      have hown := Lib.hid hown
      have hlt' : (k : Int) < (n : Int) := by omega
      clear hP HAw HBw HA HB da db la st fin
      by_cases hxy : x < y + cy
      · have stp := Lib.hid (stp.out 1 (x + 4294967296 - (y + cy)) (by omega) ⟨by omega, by omega⟩)
        have f1 : 0 ≤ x + 4294967296 - (y + cy) := by omega
        have f2 : x + 4294967296 - (y + cy) < 4294967296 := by omega
        go_wp2_with fail
        refine CA.out.mono ?_
        rintro e w' ⟨rfl, rfl⟩
        go_wp2_with fail
        refine CB.out.mono ?_
        rintro e w' ⟨rfl, rfl⟩
        go_wp2_with (at_builtin; go_loud (refine wpList_app1 rfl _ _ rfl w.heap.size _ k o (x + 4294967296 - (y + cy)) hown.out rfl rfl (by omega) hB.size ?_); intro v1 w1 hown1 hb1)
        go_roundw
        case rel => exact ⟨k + 1, _, _, by go_num, rfl, by omega, by omega, by omega, hown1, hB.trans hb1, stp.out⟩
        case measure => simp [intOf]; omega
      · have stp := Lib.hid (stp.out 0 (x - (y + cy)) (by omega) ⟨by omega, by omega⟩)
        have f1 : 0 ≤ x - (y + cy) := by omega
        have f2 : x - (y + cy) < 4294967296 := by omega
        go_wp2_with fail
        refine CA.out.mono ?_
        rintro e w' ⟨rfl, rfl⟩
        go_wp2_with fail
        refine CB.out.mono ?_
        rintro e w' ⟨rfl, rfl⟩
        go_wp2_with (at_builtin; go_loud (refine wpList_app1 rfl _ _ rfl w.heap.size _ k o (x - (y + cy)) hown.out rfl rfl (by omega) hB.size ?_); intro v1 w1 hown1 hb1)
        go_roundw
        case rel => exact ⟨k + 1, _, _, by go_num, rfl, by omega, by omega, by omega, hown1, hB.trans hb1, stp.out⟩
        case measure => simp [intOf]; omega
    · have ek : k = n := by omega
      have hge : (n : Int) ≤ (k : Int) := by omega
      have HT := Lib.hid (trim_own hown hP.lim (by omega) hB (fin.out o cy (by rw [la.out, ← ek]; exact hP) c0))
      clear hown HA HB da db la st hP fin ek
      go_wp2_with fail
      refine HT.out.mono ?_
      intro e w2 hp
      obtain ⟨A2, n2, c2, l2, rfl, hs2, hn2, hv2, fr2, hb2⟩ := hp
      have hp := Lib.hid (show NatPost (natV a - natV b) w (.returned (.slice A2 n2 c2)) w2 from ⟨A2, n2, c2, l2, rfl, hs2, hn2, hv2, fr2, hb2⟩)
      clear hs2 hn2 hv2 hb2
      go_wp2
      go_ret
      exact hp.out

/-- k limbs of a double. -/
structure TwiceAt (a : List Int) (c : Int) (k : Nat) (o : List Int) (cy : Int) : Prop where
  len : o.length = k
  lim : ∀ x ∈ o, Limb x
  v : natV o + cy * pw (32 * (k : Int)) = 2 * natV (a.take k) + c
theorem twice_step {a o : List Int} {k : Nat} {c cy s : Int} (h : TwiceAt a c k o cy) (hs : s = 2 * digV a k + cy) : TwiceAt a c (k + 1) (o ++ [s % 4294967296]) (s / 4294967296) := by
  obtain ⟨h1, h2, h3⟩ := h
  refine ⟨by simp [h1], limbs_snoc h2 (limb_mod s), ?_⟩
  rw [natV_snoc, natV_take_dig, pw32, h1]
  have e : s = 4294967296 * (s / 4294967296) + s % 4294967296 := by omega
  generalize s / 4294967296 = q at *
  generalize s % 4294967296 = r at *
  generalize pw (32 * (k : Int)) = p at *
  have : p * (2 * digV a k + cy) = p * (4294967296 * q + r) := by rw [← hs, ← e]
  rw [Int.mul_add, Int.mul_add, Int.mul_left_comm p 2] at this
  rw [Int.mul_comm cy p] at h3
  rw [Int.mul_comm q, Int.mul_assoc 4294967296 p q]
  rw [Int.mul_left_comm p 4294967296 q] at this
  omega
theorem twice_end {a o : List Int} {k : Nat} {c cy : Int} (h : TwiceAt a c k o cy) (h1 : a.length ≤ k) (hc : Limb cy) : (∀ x ∈ o ++ [cy], Limb x) ∧ natV (o ++ [cy]) = 2 * natV a + c := by
  refine ⟨limbs_snoc h.lim hc, ?_⟩
  rw [natV_snoc, h.len, Int.mul_comm, h.v, natV_take_all h1]
/-- One more, perhaps. -/
def b2i (b : Bool) : Int := if b then 1 else 0

set_option maxHeartbeats 2000000 in
theorem rtwice_any (A : Option Addr) (n c : Nat) (a : List Int) (more : Bool) (w : World) (h : Sl w w.heap.size A n c a) (hn : n ≤ 100000000) :
    Calls Try.prog 46 #[.slice A n c, .bool more] w (NatPost (2 * natV a + b2i more) w) := by
  have HA := Lib.hid h
  obtain ⟨mm, hmm⟩ : ∃ mm, b2i more = mm := ⟨_, rfl⟩
  rw [hmm]
  have st := Lib.hid (fun k o cy s => @twice_step a o k mm cy s)
  have la := Lib.hid h.len
  have da := Lib.hid (digV_limb h.lim)
  have s0 : Hid (TwiceAt a mm 0 [] (b2i more)) := ⟨rfl, by simp, by show natV [] + b2i more * 1 = 2 * natV (a.take 0) + mm; rw [hmm]; simp [natV]⟩
  have HM := Lib.hid hmm
  clear hmm h
  cases more
  all_goals
    go_enter Try.func46, Try.ntmps46
    go_wp2
    go_loopw [5, 6, 7] (fun v cc i wr => ∃ k : Nat, ∃ o : List Int, ∃ cy : Int, i = .int .i64 (k : Int) ∧ cc = .int .u64 cy ∧ 0 ≤ cy ∧ cy ≤ 1 ∧ k ≤ n ∧ wr.ownsRow w.heap.size 62 1 v k (o.map (Value.int .u32)) ∧ Below w.heap.size w wr ∧ TwiceAt a mm k o cy) (fun _ _ i _ => n - (intOf i).toNat)
    case atStart => exact ⟨0, [], _, rfl, rfl, by decide, by decide, by omega, ⟨rfl, .inl ⟨rfl, rfl⟩⟩, Below.refl _ _, s0.out⟩
    case round =>
      obtain ⟨k, o, cy, rfl, rfl, c0, c1, hk, hown, hB, hP⟩ := hrel
      have k0 : (k : Int) ≤ 100000000 := by omega
      by_cases hlt : k < n
      · have HAw := (HA.out.below hB).more hB.size
        rcases HAw.rd with hz | ⟨b, of, rfl, hb, hc⟩
        · omega
        have cell : wr.cell? ⟨b, of + k, none⟩ = some (.int .u32 (digV a k)) := by rw [hc k (by rw [la.out]; exact hlt), digV_lt]
        obtain ⟨x0, x1⟩ := da.out k
        have stp := Lib.hid (st.out k o cy (2 * digV a k + cy) hP rfl)
        generalize digV a k = x at *
        have hown := Lib.hid hown
        have hlt' : (k : Int) < (n : Int) := by omega
        clear hP HA HAw da la st hc s0
        go_wp2_with (at_builtin; go_loud (refine wpList_app1 rfl _ _ rfl w.heap.size _ k o ((2 * x + cy) % 4294967296) hown.out rfl rfl (by omega) hB.size ?_); intro v1 w1 hown1 hb1)
        go_roundw
        case rel => exact ⟨k + 1, _, _, by go_num, rfl, by omega, by omega, by omega, hown1, hB.trans hb1, stp.out⟩
        case measure => simp [intOf]; omega
      · have hge : (n : Int) ≤ (k : Int) := by omega
        have fin := Lib.hid (twice_end hP (by rw [la.out]; omega) (show Limb cy from ⟨c0, by omega⟩))
        have HO := Lib.hid hown
        clear hown HA da la st hP s0
        go_wp2_with (at_builtin; go_loud (refine wpList_app1 rfl _ _ rfl w.heap.size _ k o cy HO.out rfl rfl (by omega) hB.size ?_); intro v1 w1 hown1 hb1)
        refine (trim_own hown1 fin.out.1 (by omega) (hB.trans hb1) fin.out.2).mono ?_
        intro e w2 hp
        obtain ⟨A2, n2, c2, l2, rfl, hs2, hn2, hv2, fr2, hb2⟩ := hp
        have hp := Lib.hid (show NatPost _ w (.returned (.slice A2 n2 c2)) w2 from ⟨A2, n2, c2, l2, rfl, hs2, hn2, hv2, fr2, hb2⟩)
        clear hs2 hn2 hv2 hb2
        go_wp2
        go_ret
        exact hp.out
end Go.Proofs.Ytomeidbigofnaaa
