/-
  Package decimal: Right: walked.
-/
import Derived.Test.YtgjhpcmpgkfnkaaDoorA3
namespace Go.Proofs.YtgjhpcmpgkfnkaaDoor
open Go.RowKit Go.Shelf

/-- What is right. -/
def rightV (l : List UInt8) (x : Int) : Bool := if l = [] then decide (x = 0) else (decide (l.length ≤ 1100) && (l.all dgB && (decide (B l 0 ≠ 48) && (decide (B l (l.length - 1) ≠ 48) && (decide (-100000 ≤ x) && decide (x ≤ 100000))))))
theorem right_any (b : Bool) (s : ByteArray) (x : Int) (w : World) (hs : s.size ≤ 1000000) :
    Calls Tryd.prog 12 #[.agg #[.bool b, .string s, .int .i64 x]] w fun e w' => e = .returned (.bool (rightV s.data.toList x)) ∧ Below w.heap.size w w' := by
  have AD := Lib.hid (fun W => allDigits_any s W hs)
  have SZ := bytes_size s
  obtain ⟨l, hl⟩ : ∃ l, s.data.toList = l := ⟨_, rfl⟩
  have BG := Lib.hid (fun k hk => B_get (s := s) (k := k) hl hk)
  rw [hl] at AD SZ ⊢
  clear hl
  by_cases h0 : s.size = 0
  · have e0 : l = [] := List.eq_nil_of_length_eq_zero (by omega)
    have i0 : (s.size : Int) = 0 := by omega
    have A : Hid (rightV l x = (x == 0)) := by
      unfold Hid rightV; rw [if_pos e0]
      by_cases hx : x = 0
      · rw [hx]; rfl
      · rw [decide_eq_false hx]; symm; simpa using hx
    clear e0 SZ AD BG h0
    go_enter Tryd.func12, Tryd.ntmps12
    go_wp2
    go_ret
    exact ⟨by rw [A.out]; rfl, by (repeat' first | exact Below.refl _ _ | refine Below.alloc ?_ ?_ _ | refine Below.setCell ?_ ?_ _ | refine below_drewN ?_ _ | (simp; done) | (simp; omega))⟩
  · have e0 : l ≠ [] := fun e => h0 (by rw [SZ, e]; rfl)
    have i0 : ¬ (s.size : Int) = 0 := by omega
    have E : Hid (rightV l x = (decide (l.length ≤ 1100) && (l.all dgB && (decide (B l 0 ≠ 48) && (decide (B l (l.length - 1) ≠ 48) && (decide (-100000 ≤ x) && decide (x ≤ 100000))))))) := if_neg e0
    obtain ⟨m, hm⟩ : ∃ m, s.size = m + 1 := ⟨s.size - 1, by omega⟩
    have w1 : IntKind.i64.wrap ((s.size : Int) - 1) = (m : Int) := by rw [IntKind.wrap_i64]; omega
    have k0 : 0 < s.size := by omega
    have km : m < s.size := by omega
    have b0 := BG.out 0 k0
    have bm := BG.out m km
    have lm : l.length - 1 = m := by omega
    rw [lm] at E
    have L1 : l.length = s.size := SZ.symm
    rw [L1] at E
    obtain ⟨p, hp⟩ : ∃ p, B l 0 = p := ⟨_, rfl⟩
    obtain ⟨q, hq⟩ : ∃ q, B l m = q := ⟨_, rfl⟩
    rw [hp] at b0 E
    rw [hq] at bm E
    have m0 : (0 : Int) ≤ (m : Int) := by omega
    have m1 : (m : Int) < (s.size : Int) := by omega
    have m2 : (0 : Int) < (s.size : Int) := by omega
    have HM := Lib.hid hm
    clear e0 SZ BG lm L1 hp hq hm
    obtain ⟨t, ht⟩ : ∃ t, l.all dgB = t := ⟨_, rfl⟩
    rw [ht] at AD E
    by_cases h1 : (s.size : Int) ≤ 1100
    · cases t with
      | true =>
        by_cases h3 : p ≠ 48
        · have b3 : (p != 48) = true := by simpa using h3
          by_cases h4 : q ≠ 48
          · have b4 : (q != 48) = true := by simpa using h4
            by_cases h5 : -100000 ≤ x
            · by_cases h6 : x ≤ 100000
              · have b6 : decide (x ≤ 100000) = true := decide_eq_true h6
                have A : Hid (rightV l x = true) := by
                  unfold Hid; rw [E.out, decide_eq_true (show s.size ≤ 1100 by omega), decide_eq_true h3, decide_eq_true h4, decide_eq_true h5, decide_eq_true h6]; rfl
                clear E
                go_enter Tryd.func12, Tryd.ntmps12
                go_wp2_with fail
                refine (AD.out _).mono ?_
                rintro e w2 ⟨rfl, rfl⟩
                go_wp2
                go_ret
                exact ⟨by rw [A.out]; rfl, by (repeat' first | exact Below.refl _ _ | refine Below.alloc ?_ ?_ _ | refine Below.setCell ?_ ?_ _ | refine below_drewN ?_ _ | (simp; done) | (simp; omega))⟩
              · have b6 : decide (x ≤ 100000) = false := decide_eq_false h6
                have A : Hid (rightV l x = false) := by
                  unfold Hid; rw [E.out, decide_eq_true (show s.size ≤ 1100 by omega), decide_eq_true h3, decide_eq_true h4, decide_eq_true h5, decide_eq_false h6]; rfl
                clear E
                go_enter Tryd.func12, Tryd.ntmps12
                go_wp2_with fail
                refine (AD.out _).mono ?_
                rintro e w2 ⟨rfl, rfl⟩
                go_wp2
                go_ret
                exact ⟨by rw [A.out]; rfl, by (repeat' first | exact Below.refl _ _ | refine Below.alloc ?_ ?_ _ | refine Below.setCell ?_ ?_ _ | refine below_drewN ?_ _ | (simp; done) | (simp; omega))⟩
            · have A : Hid (rightV l x = false) := by
                unfold Hid; rw [E.out, decide_eq_true (show s.size ≤ 1100 by omega), decide_eq_true h3, decide_eq_true h4, decide_eq_false h5]; rfl
              clear E
              go_enter Tryd.func12, Tryd.ntmps12
              go_wp2_with fail
              refine (AD.out _).mono ?_
              rintro e w2 ⟨rfl, rfl⟩
              go_wp2
              go_ret
              exact ⟨by rw [A.out]; rfl, by (repeat' first | exact Below.refl _ _ | refine Below.alloc ?_ ?_ _ | refine Below.setCell ?_ ?_ _ | refine below_drewN ?_ _ | (simp; done) | (simp; omega))⟩
          · have b4 : (q != 48) = false := by simpa using h4
            have A : Hid (rightV l x = false) := by
              unfold Hid; rw [E.out, decide_eq_true (show s.size ≤ 1100 by omega), decide_eq_true h3, decide_eq_false h4]; rfl
            clear E
            go_enter Tryd.func12, Tryd.ntmps12
            go_wp2_with fail
            refine (AD.out _).mono ?_
            rintro e w2 ⟨rfl, rfl⟩
            go_wp2
            go_ret
            exact ⟨by rw [A.out]; rfl, by (repeat' first | exact Below.refl _ _ | refine Below.alloc ?_ ?_ _ | refine Below.setCell ?_ ?_ _ | refine below_drewN ?_ _ | (simp; done) | (simp; omega))⟩
        · have b3 : (p != 48) = false := by simpa using h3
          have A : Hid (rightV l x = false) := by
            unfold Hid; rw [E.out, decide_eq_true (show s.size ≤ 1100 by omega), decide_eq_false h3]; rfl
          clear E
          go_enter Tryd.func12, Tryd.ntmps12
          go_wp2_with fail
          refine (AD.out _).mono ?_
          rintro e w2 ⟨rfl, rfl⟩
          go_wp2
          go_ret
          exact ⟨by rw [A.out]; rfl, by (repeat' first | exact Below.refl _ _ | refine Below.alloc ?_ ?_ _ | refine Below.setCell ?_ ?_ _ | refine below_drewN ?_ _ | (simp; done) | (simp; omega))⟩
      | false =>
        have A : Hid (rightV l x = false) := by
          unfold Hid; rw [E.out, decide_eq_true (show s.size ≤ 1100 by omega)]; rfl
        clear E
        go_enter Tryd.func12, Tryd.ntmps12
        go_wp2_with fail
        refine (AD.out _).mono ?_
        rintro e w2 ⟨rfl, rfl⟩
        go_wp2
        go_ret
        exact ⟨by rw [A.out]; rfl, by (repeat' first | exact Below.refl _ _ | refine Below.alloc ?_ ?_ _ | refine Below.setCell ?_ ?_ _ | refine below_drewN ?_ _ | (simp; done) | (simp; omega))⟩
    · have A : Hid (rightV l x = false) := by
        unfold Hid; rw [E.out, decide_eq_false (show ¬ s.size ≤ 1100 by omega)]; rfl
      clear E
      go_enter Tryd.func12, Tryd.ntmps12
      go_wp2
      go_ret
      exact ⟨by rw [A.out]; rfl, by (repeat' first | exact Below.refl _ _ | refine Below.alloc ?_ ?_ _ | refine Below.setCell ?_ ?_ _ | refine below_drewN ?_ _ | (simp; done) | (simp; omega))⟩
end Go.Proofs.YtgjhpcmpgkfnkaaDoor
