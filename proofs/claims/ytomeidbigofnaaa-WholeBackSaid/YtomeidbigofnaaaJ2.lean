/-
  The document's Value and To: walked.
-/
import Derived.Test.YtomeidbigofnaaaJ1
namespace Go.Proofs.Ytomeidbigofnaaa
open Go.RowKit Go.Shelf

def ValPost (v : Int) (w : World) (e : Ending) (w' : World) : Prop :=
  e = .returned (.tuple #[.int .u64 (if v < 18446744073709551616 then v else 0), .bool (decide (v < 18446744073709551616))]) ∧ Below w.heap.size w w'
theorem natV_drop_step {l : List Int} {k : Nat} (h : k < l.length) : natV (l.drop k) = digV l k + 4294967296 * natV (l.drop (k + 1)) := by
  rw [digV_lt h, List.drop_eq_getElem_cons h]; rfl
theorem natV_drop_lt {l : List Int} (hl : ∀ x ∈ l, Limb x) {k m : Nat} (h : l.length ≤ k + m) : 0 ≤ natV (l.drop k) ∧ natV (l.drop k) < pw (32 * (m : Int)) := by
  have a := natV_lt (limbs_drop hl k)
  have b := pw_mono (a := 32 * ((l.drop k).length : Int)) (b := 32 * (m : Int)) (by omega) (by rw [List.length_drop]; omega)
  exact ⟨natV_nonneg (limbs_drop hl k), by omega⟩
theorem shl_small (v : Int) (h0 : 0 ≤ v) (h1 : v < 4294967296) : IntKind.u64.wrap (v * 4294967296) = v * 4294967296 := by
  rw [IntKind.wrap_u64]; omega
set_option maxRecDepth 100000 in
set_option maxHeartbeats 2000000 in
theorem rvalue_any (A : Option Addr) (n c : Nat) (l : List Int) (w : World) (h : Sl w w.heap.size A n c l) (hn : n ≤ 100000000) :
    Calls Try.prog 42 #[.slice A n c] w (ValPost (natV l) w) := by
  have HT := Lib.hid (rtrim_any A n c l w h (by omega))
  have hle := Lib.hid (show ∀ x : List Int, (∀ y ∈ x, Limb y) → Norm x → natV x = natV l → x.length ≤ n from fun x h1 h2 h3 => norm_len h1 h2 (by rw [h3, ← h.len]; exact natV_lt h.lim))
  clear h
  go_enter Try.func42, Try.ntmps42
  go_wp2_with fail
  refine HT.out.mono ?_
  rintro e w1 ⟨A1, n1, c1, l1, rfl, hs, hn1, hv, fr, hb⟩
  have n1b : n1 ≤ n := by have := hle.out l1 hs.lim hn1 hv; rw [hs.len] at this; exact this
  clear hle HT fr
  by_cases c2 : 2 < n1
  · have g := norm_ge (k := 2) hs.lim hn1 (by rw [hs.len]; omega)
    rw [hv, show pw (32 * ((2 : Nat) : Int)) = 18446744073709551616 from rfl] at g
    have f1 : (if natV l < 18446744073709551616 then natV l else 0) = 0 := by rw [if_neg (by omega)]
    have f2 : decide (natV l < 18446744073709551616) = false := by simp; omega
    have fin := Lib.hid (fun w' (hb : Below w.heap.size w w') => show ValPost (natV l) w (.returned (.tuple #[.int .u64 0, .bool false])) w' from ⟨by rw [f1, f2], hb⟩)
    have c2' : (2 : Int) < (n1 : Int) := by omega
    clear hs hn1 hv g f1 f2
    go_wp2
    go_ret2
    exact fin.out _ hb
  · have g := natV_lt hs.lim
    have hl2 : l1.length ≤ 2 := by rw [hs.len]; omega
    have p2 := pw_mono (a := 32 * (l1.length : Int)) (b := 64) (by omega) (by omega)
    rw [show pw 64 = 18446744073709551616 from rfl] at p2
    have f1 : (if natV l < 18446744073709551616 then natV l else 0) = natV l := by rw [if_pos (by omega)]
    have f2 : decide (natV l < 18446744073709551616) = true := by simp; omega
    have fin := Lib.hid (fun w' (hb : Below w.heap.size w w') => show ValPost (natV l) w (.returned (.tuple #[.int .u64 (natV l), .bool true])) w' from ⟨by rw [f1, f2], hb⟩)
    have stp := Lib.hid (fun k (h : k < n1) => @natV_drop_step l1 k (by rw [hs.len]; exact h))
    have bd := Lib.hid (fun k m (h : n1 ≤ k + m) => @natV_drop_lt l1 hs.lim k m (by rw [hs.len]; exact h))
    have dg := Lib.hid (digV_limb hs.lim)
    have d0 : natV (l1.drop 0) = natV l := by rw [List.drop_zero, hv]
    have dn : natV (l1.drop n1) = 0 := by rw [← hs.len, List.drop_length]; rfl
    have hE := Lib.hid d0
    have hN := Lib.hid dn
    have hLe := Lib.hid hs.len
    have hc2 : ¬ (2 : Int) < (n1 : Int) := by omega
    obtain ⟨hlen, hcap, hmax, hlim, hnil, hrd⟩ := hs
    clear hcap hmax hnil
    have HC : Hid (∀ k : Nat, k < n1 → ∃ b o, A1 = some ⟨b, o, none⟩ ∧ b < w1.heap.size ∧ w1.cell? ⟨b, o + k, none⟩ = some (.int .u32 (digV l1 k))) := fun k hk => by
      rcases hrd with h0 | ⟨b, o, e, hb2, hc⟩
      · omega
      · exact ⟨b, o, e, hb2, by rw [hc k (by omega), digV_lt]⟩
    clear hrd hlim hlen hv hn1 g p2 f1 f2 d0 dn hl2 hLe
    go_wp2
    go_loopw [5, 6] (fun v i wr => ∃ k : Nat, k ≤ n1 ∧ i = .int .i64 ((k : Int) - 1) ∧ v = .int .u64 (natV (l1.drop k)) ∧ ∃ q, w1.drewN q = wr) (fun _ i _ => (intOf i + 1).toNat)
    case atStart => exact ⟨n1, Nat.le_refl _, by go_num, by rw [hN.out], 0, rfl⟩
    case round =>
      obtain ⟨k, hk, rfl, rfl, q, rfl⟩ := hrel
      cases k with
      | zero =>
        have e0 := hE.out
        rw [e0]
        clear HC stp bd dg hE hN e0
        go_wp2
        go_ret2
        exact fin.out _ (below_drewN hb _)
      | succ j =>
        have hj : j < n1 := by omega
        have ej : ((j + 1 : Nat) : Int) - 1 = (j : Int) := by omega
        have jl : (j : Int) < (n1 : Int) := by omega
        have j0 : (0 : Int) ≤ (j : Int) := by omega
        obtain ⟨b, o, rfl, hb2, cell⟩ := HC.out j hj
        obtain ⟨x0, x1⟩ := dg.out j
        obtain ⟨y0, y1⟩ := bd.out (j + 1) 1 (by omega)
        rw [show pw (32 * ((1 : Nat) : Int)) = 4294967296 from rfl] at y1
        have st := Lib.hid (stp.out j hj)
        generalize digV l1 j = x at *
        generalize natV (l1.drop (j + 1)) = y at *
        have hs1 := shl_small y y0 y1
        have hs2 : IntKind.u64.wrap (y * 4294967296 + x) = y * 4294967296 + x := by rw [IntKind.wrap_u64]; omega
        clear HC stp bd dg hE hN
        go_wp2
        go_roundw
        case rel => exact ⟨j, by omega, by go_num, by rw [st.out, Int.add_comm, Int.mul_comm], _, rfl⟩
        case measure => simp [intOf]
end Go.Proofs.Ytomeidbigofnaaa
