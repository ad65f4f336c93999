/-
  The document's decimals: Right: walked.
-/
import Derived.Test.YtgjhpcmpgkfnkaaDoorA4
namespace Go.Proofs.YtgjhpcmpgkfnkaaDoor
open Go.RowKit Go.Shelf

theorem rright_any (b : Bool) (s : ByteArray) (x : Int) (w : World) (hs : s.size ≤ 1000000) :
    Calls Tryd.prog 13 #[.agg #[.bool b, .string s, .int .i64 x]] w fun e w' => e = .returned (.bool (rightV s.data.toList x)) ∧ Below w.heap.size w w' := by
  have AD := Lib.hid (fun z z0 z1 W => rdigit_any z W z0 z1)
  have SZ := bytes_size s
  obtain ⟨l, hl⟩ : ∃ l, s.data.toList = l := ⟨_, rfl⟩
  have BG := Lib.hid (fun k hk => B_get (s := s) (k := k) hl hk)
  have DT := Lib.hid (@digs_t l)
  have DF := Lib.hid (fun k h1 h2 => @digs_f l k h1 h2)
  have BR := Lib.hid (fun k => B_range l k)
  rw [hl] at SZ ⊢
  clear hl
  by_cases h0 : s.size = 0
  · have e0 : l = [] := List.eq_nil_of_length_eq_zero (by omega)
    have i0 : (s.size : Int) = 0 := by omega
    have A : Hid (rightV l x = (x == 0)) := by
      unfold Hid rightV; rw [if_pos e0]
      by_cases hx : x = 0
      · rw [hx]; rfl
      · rw [decide_eq_false hx]; symm; simpa using hx
    clear e0 SZ AD BG h0 DT DF BR
    go_enter Tryd.func13, Tryd.ntmps13
    go_wp2
    go_ret
    exact ⟨by rw [A.out]; rfl, by (repeat' first | exact Below.refl _ _ | refine Below.alloc ?_ ?_ _ | refine Below.setCell ?_ ?_ _ | refine below_drewN ?_ _ | (simp; done) | (simp; omega))⟩
  · have e0 : l ≠ [] := fun e => h0 (by rw [SZ, e]; rfl)
    have i0 : ¬ (s.size : Int) = 0 := by omega
    have ib : ((s.size : Int) == 0) = false := beq_eq_false_iff_ne.2 i0
    have E : Hid (rightV l x = (decide (l.length ≤ 1100) && (l.all dgB && (decide (B l 0 ≠ 48) && (decide (B l (l.length - 1) ≠ 48) && (decide (-100000 ≤ x) && decide (x ≤ 100000))))))) := if_neg e0
    obtain ⟨m, hm⟩ : ∃ m, s.size = m + 1 := ⟨s.size - 1, by omega⟩
    have w1 : IntKind.i64.wrap ((s.size : Int) - 1) = (m : Int) := by rw [IntKind.wrap_i64]; omega
    have k0 : 0 < s.size := by omega
    have km : m < s.size := by omega
    have b0 := BG.out 0 k0
    have bm := BG.out m km
    have lm : l.length - 1 = m := by omega
    rw [lm] at E
    have L1 : l.length = s.size := SZ.symm
    rw [L1] at E
    obtain ⟨p, hp⟩ : ∃ p, B l 0 = p := ⟨_, rfl⟩
    obtain ⟨q, hq⟩ : ∃ q, B l m = q := ⟨_, rfl⟩
    rw [hp] at b0 E
    rw [hq] at bm E
    have m0 : (0 : Int) ≤ (m : Int) := by omega
    have m1 : (m : Int) < (s.size : Int) := by omega
    have m2 : (0 : Int) < (s.size : Int) := by omega
    have HM := Lib.hid hm
    have HZ := Lib.hid SZ
    clear e0 SZ lm L1 hp hq hm
    by_cases h1 : (s.size : Int) ≤ 1100
    · have b_h1 : decide (1100 < (s.size : Int)) = false := decide_eq_false (by omega)
      by_cases h5 : -100000 ≤ x
      · have b_h5 : decide (x < -100000) = false := decide_eq_false (by omega)
        by_cases h6 : x ≤ 100000
        · have b_h6 : decide (100000 < x) = false := decide_eq_false (by omega)
          by_cases h3 : p ≠ 48
          · have b_h3 : (p == 48) = false := by simpa using h3
            by_cases h4 : q ≠ 48
            · have b_h4 : (q == 48) = false := by simpa using h4
              have E' := Lib.hid (E.out.trans (by rw [decide_eq_true (show s.size ≤ 1100 by omega), decide_eq_true h3, decide_eq_true h4, decide_eq_true h5, decide_eq_true h6, Bool.true_and, Bool.and_true, Bool.and_true, Bool.and_true, Bool.and_true] : _ = l.all dgB))
              clear E
              go_enter Tryd.func13, Tryd.ntmps13
              go_wp2
              go_loop [4] (fun v => ∃ k : Nat, v = .int .i64 (k : Int) ∧ k ≤ s.size ∧ Hid (∀ j : Nat, j < k → 48 ≤ B l j ∧ B l j ≤ 57)) (fun v => s.size - (intOf v).toNat)
              case atStart => exact ⟨0, rfl, by omega, fun j hj => absurd hj (Nat.not_lt_zero _)⟩
              case round =>
                obtain ⟨k, rfl, hk, hd⟩ := hrel
                by_cases hlt : k < s.size
                · have klt : (k : Int) < (s.size : Int) := by omega
                  have kk0 : (0 : Int) ≤ (k : Int) := by omega
                  have bs := BG.out k hlt
                  have br := BR.out k
                  have w2 : IntKind.i64.wrap ((k : Int) + 1) = (k : Int) + 1 := by rw [IntKind.wrap_i64]; omega
                  obtain ⟨z, hz⟩ : ∃ z, B l k = z := ⟨_, rfl⟩
                  rw [hz] at bs br
                  by_cases h2 : 48 ≤ z ∧ z ≤ 57
                  · have A : Hid (∀ j : Nat, j < k + 1 → 48 ≤ B l j ∧ B l j ≤ 57) := fun j hj => by
                      by_cases e : j = k
                      · subst e; rw [hz]; omega
                      · exact hd.out j (by omega)
                    have RD := Lib.hid (fun W => AD.out z br.1 br.2 W)
                    rw [decide_eq_true h2] at RD
                    clear hz
                    go_wp2_with fail
                    refine (RD.out _).mono ?_
                    rintro e w3 ⟨rfl, rfl⟩
                    go_wp2
                    refine ⟨⟨k + 1, by simp, by omega, A⟩, ?_⟩
                    simp [intOf]; omega
                  · have A := Lib.hid (DF.out k (by rw [← HZ.out]; exact hlt) (by rw [hz]; exact h2))
                    have RD := Lib.hid (fun W => AD.out z br.1 br.2 W)
                    rw [decide_eq_false h2] at RD
                    clear hz
                    go_wp2_with fail
                    refine (RD.out _).mono ?_
                    rintro e w3 ⟨rfl, rfl⟩
                    go_wp2
                    go_ret
                    exact ⟨by rw [E'.out, A.out]; rfl, by (repeat' first | exact Below.refl _ _ | refine Below.alloc ?_ ?_ _ | refine Below.setCell ?_ ?_ _ | refine below_drewN ?_ _ | (simp; done) | (simp; omega))⟩
                · have klt : ¬ (k : Int) < (s.size : Int) := by omega
                  have A := Lib.hid (DT.out (fun j hj => hd.out j (by have := HZ.out; omega)))
                  go_wp2
                  go_ret
                  exact ⟨by rw [E'.out, A.out]; rfl, by (repeat' first | exact Below.refl _ _ | refine Below.alloc ?_ ?_ _ | refine Below.setCell ?_ ?_ _ | refine below_drewN ?_ _ | (simp; done) | (simp; omega))⟩
            · have b_h4 : (q == 48) = true := by simpa using h4
              have A : Hid (rightV l x = false) := by
                unfold Hid; rw [E.out, decide_eq_false h4]; simp
              clear E AD BG BR DT DF HZ
              go_enter Tryd.func13, Tryd.ntmps13
              go_wp2
              go_ret
              exact ⟨by rw [A.out]; rfl, by (repeat' first | exact Below.refl _ _ | refine Below.alloc ?_ ?_ _ | refine Below.setCell ?_ ?_ _ | refine below_drewN ?_ _ | (simp; done) | (simp; omega))⟩
          · have b_h3 : (p == 48) = true := by simpa using h3
            have A : Hid (rightV l x = false) := by
              unfold Hid; rw [E.out, decide_eq_false h3]; simp
            clear E AD BG BR DT DF HZ
            go_enter Tryd.func13, Tryd.ntmps13
            go_wp2
            go_ret
            exact ⟨by rw [A.out]; rfl, by (repeat' first | exact Below.refl _ _ | refine Below.alloc ?_ ?_ _ | refine Below.setCell ?_ ?_ _ | refine below_drewN ?_ _ | (simp; done) | (simp; omega))⟩
        · have b_h6 : decide (100000 < x) = true := decide_eq_true (by omega)
          have A : Hid (rightV l x = false) := by
            unfold Hid; rw [E.out, decide_eq_false h6]; simp
          clear E AD BG BR DT DF HZ
          go_enter Tryd.func13, Tryd.ntmps13
          go_wp2
          go_ret
          exact ⟨by rw [A.out]; rfl, by (repeat' first | exact Below.refl _ _ | refine Below.alloc ?_ ?_ _ | refine Below.setCell ?_ ?_ _ | refine below_drewN ?_ _ | (simp; done) | (simp; omega))⟩
      · have b_h5 : decide (x < -100000) = true := decide_eq_true (by omega)
        have A : Hid (rightV l x = false) := by
          unfold Hid; rw [E.out, decide_eq_false h5]; simp
        clear E AD BG BR DT DF HZ
        go_enter Tryd.func13, Tryd.ntmps13
        go_wp2
        go_ret
        exact ⟨by rw [A.out]; rfl, by (repeat' first | exact Below.refl _ _ | refine Below.alloc ?_ ?_ _ | refine Below.setCell ?_ ?_ _ | refine below_drewN ?_ _ | (simp; done) | (simp; omega))⟩
    · have b_h1 : decide (1100 < (s.size : Int)) = true := decide_eq_true (by omega)
      have A : Hid (rightV l x = false) := by
        unfold Hid; rw [E.out, decide_eq_false (show ¬ s.size ≤ 1100 by omega)]; simp
      clear E AD BG BR DT DF HZ
      go_enter Tryd.func13, Tryd.ntmps13
      go_wp2
      go_ret
      exact ⟨by rw [A.out]; rfl, by (repeat' first | exact Below.refl _ _ | refine Below.alloc ?_ ?_ _ | refine Below.setCell ?_ ?_ _ | refine below_drewN ?_ _ | (simp; done) | (simp; omega))⟩
end Go.Proofs.YtgjhpcmpgkfnkaaDoor
