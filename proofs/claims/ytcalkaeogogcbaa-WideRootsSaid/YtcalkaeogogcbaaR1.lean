/-
  The statement WideRoots, walked: the root's square is not above the number, the next one's is.
-/
import Derived.Test.YtcalkaeogogcbaaW9
namespace Go.Proofs.Ytcalkaeogogcbaa
open Go.RowKit Go.Shelf

theorem roots_word (r : Int) (h : Word r) (hm : r ≠ 18446744073709551615) : Word (r + 1) := by unfold Word at *; omega

set_option maxHeartbeats 2000000 in
theorem roots_any (h l : Int) (h1 : Word h) (h2 : Word l) (w : World) : Calls Try.prog 4 #[.agg #[.int .u64 h, .int .u64 l]] w (TruePost w) := by
  have H1 := Lib.hid h1; have H2 := Lib.hid h2; clear h1 h2
  go_enter Try.func4, Try.ntmps4
  go_wp2_with fail
  refine (shown_any _).mono ?_
  rintro e w1 ⟨rfl, hb1⟩
  have s1 := hb1.size; simp at s1
  have z1 : w.heap.size < w1.heap.size := by omega
  have c10 : w1.cell? ⟨w.heap.size, 0, none⟩ = some (.int .u64 h) := by rw [(bcell hb1).1 _ _ (by simp)]; simp [go_sem]
  have c11 : w1.cell? ⟨w.heap.size, 1, none⟩ = some (.int .u64 l) := by rw [(bcell hb1).1 _ _ (by simp)]; simp [go_sem]
  have hB1 : Below w.heap.size w w1 := ((Below.refl _ _).alloc (Nat.le_refl _) _).trans (hb1.mono (by simp))
  clear hb1
  go_wp2_with fail
  refine (root_any h l H1.out H2.out _).mono ?_
  rintro e w2 ⟨r, o, rfl, hr, hlo, hhi, ho, hb2⟩
  have s2 := hb2.size
  have z2 : w.heap.size < w2.heap.size := by omega
  have c20 : w2.cell? ⟨w.heap.size, 0, none⟩ = some (.int .u64 h) := by rw [(bcell hb2).1 _ _ (by omega)]; exact c10
  have c21 : w2.cell? ⟨w.heap.size, 1, none⟩ = some (.int .u64 l) := by rw [(bcell hb2).1 _ _ (by omega)]; exact c11
  have hB2 : Below w.heap.size w w2 := hB1.trans (hb2.mono (by omega))
  clear hb2 c10 c11 hB1
  obtain ⟨p1, p2, p3⟩ := sq_words r hr
  obtain ⟨p, hp⟩ : ∃ z, r * r / 18446744073709551616 = z := ⟨_, rfl⟩
  obtain ⟨q, hq⟩ : ∃ z, r * r % 18446744073709551616 = z := ⟨_, rfl⟩
  rw [hp] at p1 p3; rw [hq] at p2 p3
  obtain ⟨c, hc⟩ : ∃ c, cmpI (val p q) (val h l) = c := ⟨_, rfl⟩
  have hc0 : c ≤ 0 := by rw [← hc, cmpI_le, p3]; exact hlo
  have ho' : o = ((p == h) && (q == l)) := by
    rw [Bool.eq_iff_iff, ho, ← p3]
    simp
    exact ⟨fun e => val_inj p1 p2 H1.out H2.out e, fun ⟨e1, e2⟩ => by rw [e1, e2]⟩
  have Hr := Lib.hid hr; have Hlo := Lib.hid hlo; have Hhi := Lib.hid hhi; have Hp := Lib.hid hp; have Hq := Lib.hid hq; have P1 := Lib.hid p1; have P2 := Lib.hid p2; have Hc := Lib.hid hc; have HB2 := Lib.hid hB2
  clear hr hlo hhi ho hp hq p1 p2 p3 hc hB2
  have z0l : w.heap.size ≤ w2.heap.size := by omega
  have z1l : w.heap.size ≤ w2.heap.size + 1 := by omega
  have z1s : w.heap.size < w2.heap.size + 1 := by omega
  have z2l : w.heap.size ≤ w2.heap.size + 1 + 1 := by omega
  have z2s : w.heap.size < w2.heap.size + 1 + 1 := by omega
  have z3l : w.heap.size ≤ w2.heap.size + 1 + 1 + 1 := by omega
  have z3s : w.heap.size < w2.heap.size + 1 + 1 + 1 := by omega
  have z4l : w.heap.size ≤ w2.heap.size + 1 + 1 + 1 + 1 := by omega
  have z4s : w.heap.size < w2.heap.size + 1 + 1 + 1 + 1 := by omega
  have z5l : w.heap.size ≤ w2.heap.size + 1 + 1 + 1 + 1 + 1 := by omega
  have z5s : w.heap.size < w2.heap.size + 1 + 1 + 1 + 1 + 1 := by omega
  have z6l : w.heap.size ≤ w2.heap.size + 1 + 1 + 1 + 1 + 1 + 1 := by omega
  have z6s : w.heap.size < w2.heap.size + 1 + 1 + 1 + 1 + 1 + 1 := by omega
  have z7l : w.heap.size ≤ w2.heap.size + 1 + 1 + 1 + 1 + 1 + 1 + 1 := by omega
  have z7s : w.heap.size < w2.heap.size + 1 + 1 + 1 + 1 + 1 + 1 + 1 := by omega
  have z8l : w.heap.size ≤ w2.heap.size + 1 + 1 + 1 + 1 + 1 + 1 + 1 + 1 := by omega
  have z8s : w.heap.size < w2.heap.size + 1 + 1 + 1 + 1 + 1 + 1 + 1 + 1 := by omega
  have Hbl : Hid (∀ w', Below w2.heap.size w2 w' → Below w.heap.size w w') := fun w' h => HB2.out.trans (h.mono z0l)
  by_cases hm : r = 18446744073709551615
  · subst hm
    rcases Bool.eq_false_or_eq_true (p == h) with k1 | k1 <;> rcases Bool.eq_false_or_eq_true (q == l) with k2 | k2
    all_goals
      go_wp2_with fail
      refine (mul_vars _ _ p q Hr.out Hr.out Hp.out Hq.out _).mono ?_
      rintro e w3 ⟨rfl, d1, rfl⟩
      go_wp2_with fail
      refine (cmp_vars p q h l c P1.out P2.out H1.out H2.out Hc.out _).mono ?_
      rintro e w4 ⟨rfl, d2, d3, rfl⟩
      go_wp2
      go_ret
      refine ⟨rfl, Hbl.out _ ?_⟩
      repeat (first | exact Below.refl _ _ | refine Below.drew ?_ | refine Below.alloc ?_ (by first | (simp; done) | (simp; omega)) _)
  · have w2' := roots_word r Hr.out hm
    obtain ⟨t1, t2, t3⟩ := sq_words (r + 1) w2'
    have hlt := Hhi.out
    obtain ⟨p', hp'⟩ : ∃ z, (r + 1) * (r + 1) / 18446744073709551616 = z := ⟨_, rfl⟩
    obtain ⟨q', hq'⟩ : ∃ z, (r + 1) * (r + 1) % 18446744073709551616 = z := ⟨_, rfl⟩
    rw [hp'] at t1 t3; rw [hq'] at t2 t3
    obtain ⟨c', hc'⟩ : ∃ c, cmpI (val p' q') (val h l) = c := ⟨_, rfl⟩
    have hc1 : 0 < c' := by
      have := cmpI_le (val p' q') (val h l)
      rw [hc', t3] at this; omega
    have hwr : IntKind.u64.wrap (r + 1) = r + 1 := by have h1 := Hr.out.1; have h2 := Hr.out.2; rw [IntKind.wrap_u64]; omega
    have X := Lib.hid w2'; have T1 := Lib.hid t1; have T2 := Lib.hid t2; have HP := Lib.hid hp'; have HQ := Lib.hid hq'; have HC := Lib.hid hc'
    clear w2' t1 t2 t3 hp' hq' hc' hlt
    have hm' : (r == 18446744073709551615) = false := by simpa using hm
    rcases Bool.eq_false_or_eq_true (p == h) with k1 | k1 <;> rcases Bool.eq_false_or_eq_true (q == l) with k2 | k2
    all_goals
      go_wp2_with fail
      refine (mul_vars _ _ p q Hr.out Hr.out Hp.out Hq.out _).mono ?_
      rintro e w3 ⟨rfl, d1, rfl⟩
      go_wp2_with fail
      refine (cmp_vars p q h l c P1.out P2.out H1.out H2.out Hc.out _).mono ?_
      rintro e w4 ⟨rfl, d2, d3, rfl⟩
      go_wp2_with fail
      go_region_held3 (fun w' => w'.cell? ⟨w.heap.size, 0, none⟩ = some (.int .u64 h) ∧ w'.cell? ⟨w.heap.size, 1, none⟩ = some (.int .u64 l)) (simp [*, go_sem])
        (first
          | (go_at_call 18; refine (mul_vars (r + 1) (r + 1) p' q' X.out X.out HP.out HQ.out _).mono ?_; rintro e w5 ⟨rfl, d4, rfl⟩)
          | (go_at_call 19; refine (cmp_vars p' q' h l c' T1.out T2.out H1.out H2.out HC.out _).mono ?_; rintro e w6 ⟨rfl, d5, d6, rfl⟩))
      go_wp2
      go_ret
      refine ⟨by simp, Hbl.out _ ?_⟩
      repeat (first | exact Below.refl _ _ | refine Below.drew ?_ | refine Below.alloc ?_ (by first | (simp; done) | (simp; omega)) _)
end Go.Proofs.Ytcalkaeogogcbaa
