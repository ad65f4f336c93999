/-
  The document's naturals: Plus, Less, Twice.
-/
import Derived.Test.YtomeidbigofnaaaL2
namespace Go.Proofs.Ytomeidbigofnaaa
open Go.RowKit Go.Shelf

theorem limb_u32 (s : Int) : IntKind.u32.wrap (s % 4294967296) = s % 4294967296 := by
  rw [IntKind.wrap_u32]; omega
theorem limb_mod (s : Int) : Limb (s % 4294967296) := ⟨by omega, by omega⟩

/-- k limbs of a sum, and what is carried. -/
structure PlusAt (a b : List Int) (k : Nat) (o : List Int) (cy : Int) : Prop where
  len : o.length = k
  lim : ∀ x ∈ o, Limb x
  v : natV o + cy * pw (32 * (k : Int)) = natV (a.take k) + natV (b.take k)
theorem plus_step {a b o : List Int} {k : Nat} {cy s : Int} (h : PlusAt a b k o cy) (hs : s = digV a k + digV b k + cy) : PlusAt a b (k + 1) (o ++ [s % 4294967296]) (s / 4294967296) := by
  obtain ⟨h1, h2, h3⟩ := h
  refine ⟨by simp [h1], limbs_snoc h2 (limb_mod s), ?_⟩
  rw [natV_snoc, natV_take_dig, natV_take_dig, pw32, h1]
  have e : s = 4294967296 * (s / 4294967296) + s % 4294967296 := by omega
  generalize s / 4294967296 = q at *
  generalize s % 4294967296 = r at *
  generalize pw (32 * (k : Int)) = p at *
  have : p * (digV a k + digV b k + cy) = p * (4294967296 * q + r) := by rw [← hs, ← e]
  rw [Int.mul_add, Int.mul_add, Int.mul_add] at this
  rw [Int.mul_comm cy p] at h3
  rw [Int.mul_comm q, Int.mul_assoc 4294967296 p q]
  rw [Int.mul_left_comm p 4294967296 q] at this
  omega
theorem plus_end {a b o : List Int} {k : Nat} {cy : Int} (h : PlusAt a b k o cy) (h1 : a.length ≤ k) (h2 : b.length ≤ k) (hc : Limb cy) : (∀ x ∈ o ++ [cy], Limb x) ∧ natV (o ++ [cy]) = natV a + natV b := by
  refine ⟨limbs_snoc h.lim hc, ?_⟩
  rw [natV_snoc, h.len, Int.mul_comm, h.v, natV_take_all h1, natV_take_all h2]

/-- Whatever of 'make' and 'append' the call's own row is, Trim of it is the answer. -/
theorem trim_own {w w1 : World} {v : Value} {n : Nat} {l : List Int} (hown : w1.ownsRow w.heap.size 62 1 v n (l.map (Value.int .u32))) (hl : ∀ x ∈ l, Limb x) (hn : n ≤ 1000000000) (hb : Below w.heap.size w w1) {x : Int} (hv : natV l = x) :
    Calls Try.prog 64 #[v] w1 (NatPost x w) := by
  obtain ⟨A, c, rfl, hs, _⟩ := Sl.of_own hown hl
  exact (rtrim_any A n c l w1 hs hn).mono fun e w' h => h.on hb hv

set_option maxHeartbeats 2000000 in
theorem rplus_any (A B : Option Addr) (n m c d : Nat) (a b : List Int) (w : World) (h : Sl w w.heap.size A n c a) (h' : Sl w w.heap.size B m d b) (hn : n ≤ 100000000) (hm : m ≤ 100000000) :
    Calls Try.prog 59 #[.slice A n c, .slice B m d] w (NatPost (natV a + natV b) w) := by
  have HA := Lib.hid h; have HB := Lib.hid h'
  have st := Lib.hid (fun k o cy s => @plus_step a b o k cy s)
  have la := Lib.hid h.len; have lb := Lib.hid h'.len
  have da := Lib.hid (digV_limb h.lim); have db := Lib.hid (digV_limb h'.lim)
  clear h h'
  go_enter Try.func59, Try.ntmps59
  go_wp2
  go_loopw [5, 6, 7] (fun v cc i wr => ∃ k : Nat, ∃ o : List Int, ∃ cy : Int, i = .int .i64 (k : Int) ∧ cc = .int .u64 cy ∧ 0 ≤ cy ∧ cy ≤ 1 ∧ (k ≤ n ∨ k ≤ m) ∧ wr.ownsRow w.heap.size 62 1 v k (o.map (Value.int .u32)) ∧ Below w.heap.size w wr ∧ PlusAt a b k o cy) (fun _ _ i _ => n + m - (intOf i).toNat)
  case atStart => exact ⟨0, [], 0, rfl, rfl, by decide, by decide, .inl (by omega), ⟨rfl, .inl ⟨rfl, rfl⟩⟩, Below.refl _ _, ⟨rfl, by simp, by simp [natV]⟩⟩
  case round =>
    obtain ⟨k, o, cy, rfl, rfl, c0, c1, hk, hown, hB, hP⟩ := hrel
    have k0 : (k : Int) ≤ 100000000 := by omega
    by_cases hlt : k < n ∨ k < m
    · have HAw := Lib.hid ((HA.out.below hB).more hB.size)
      have HBw := Lib.hid ((HB.out.below hB).more hB.size)
      obtain ⟨x0, x1⟩ := da.out k
      obtain ⟨y0, y1⟩ := db.out k
      have stp := Lib.hid (st.out k o cy (digV a k + digV b k + cy) hP rfl)
      have CA := Lib.hid (limb_any A n c a k wr HAw.out (by omega))
      have CB := Lib.hid (limb_any B m d b k wr HBw.out (by omega))
      generalize digV a k = x at *
      generalize digV b k = y at *
      have wr1 := limb_u32 (x + y + cy)
      have WR := Lib.hid wr1
      have hown := Lib.hid hown
      have hk' : (n : Int) ≤ (k : Int) → (k : Int) < (m : Int) := by omega
      clear wr1 hP HAw HBw HA HB da db la lb st
      by_cases hkn : k < n
      · have hlt' : (k : Int) < (n : Int) := by omega
        clear hk' hlt
        go_wp2_with fail
        refine CA.out.mono ?_
        rintro e w' ⟨rfl, rfl⟩
        go_wp2_with fail
        refine CB.out.mono ?_
        rintro e w' ⟨rfl, rfl⟩
        go_wp2_with (at_builtin; refine wpList_app1 rfl _ _ rfl w.heap.size _ k o ((x + y + cy) % 4294967296) hown.out rfl rfl (by omega) hB.size ?_; intro v1 w1 hown1 hb1)
        go_roundw
        case rel => exact ⟨k + 1, _, _, by go_num, rfl, by omega, by omega, by omega, hown1, hB.trans hb1, stp.out⟩
        case measure => simp [intOf]; omega
      · have hge : (n : Int) ≤ (k : Int) := by omega
        have hlt' : (k : Int) < (m : Int) := by omega
        clear hk' hlt
        go_wp2_with fail
        refine CA.out.mono ?_
        rintro e w' ⟨rfl, rfl⟩
        go_wp2_with fail
        refine CB.out.mono ?_
        rintro e w' ⟨rfl, rfl⟩
        go_wp2_with (at_builtin; refine wpList_app1 rfl _ _ rfl w.heap.size _ k o ((x + y + cy) % 4294967296) hown.out rfl rfl (by omega) hB.size ?_; intro v1 w1 hown1 hb1)
        go_roundw
        case rel => exact ⟨k + 1, _, _, by go_num, rfl, by omega, by omega, by omega, hown1, hB.trans hb1, stp.out⟩
        case measure => simp [intOf]; omega
    · have hge : (n : Int) ≤ (k : Int) := by omega
      have hge2 : (m : Int) ≤ (k : Int) := by omega
      have wcy : IntKind.u32.wrap cy = cy := by rw [IntKind.wrap_u32]; omega
      have fin := Lib.hid (plus_end hP (by rw [la.out]; omega) (by rw [lb.out]; omega) (show Limb cy from ⟨c0, by omega⟩))
      have HO := Lib.hid hown
      clear hown HA HB da db la lb st hP wcy
      go_wp2_with (at_builtin; refine wpList_app1 rfl _ _ rfl w.heap.size _ k o cy HO.out rfl rfl (by omega) hB.size ?_; intro v1 w1 hown1 hb1)
      refine (trim_own hown1 fin.out.1 (by omega) (hB.trans hb1) fin.out.2).mono ?_
      intro e w2 hp
      obtain ⟨A2, n2, c2, l2, rfl, hs2, hn2, hv2, fr2, hb2⟩ := hp
      have hp := Lib.hid (show NatPost (natV a + natV b) w (.returned (.slice A2 n2 c2)) w2 from ⟨A2, n2, c2, l2, rfl, hs2, hn2, hv2, fr2, hb2⟩)
      clear hs2 hn2 hv2 hb2
      go_wp2
      go_ret
      exact hp.out
end Go.Proofs.Ytomeidbigofnaaa
