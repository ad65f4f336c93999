/-
  The statement WideBack, walked.
-/
import Derived.Test.YtcalkaeogogcbaaB1
import Derived.Deep.DeepCutAuto
import Derived.Deep.CutBlock
namespace Go.Proofs.Ytcalkaeogogcbaa
open Go.RowKit Go.Shelf

theorem bcells {w0 W w1 : World} (hb : Below W.heap.size W w1) (h0 : w0.heap.size < W.heap.size) {o : Nat} {v : Value} (hc : W.cell? ⟨w0.heap.size, o, none⟩ = some v) : w1.cell? ⟨w0.heap.size, o, none⟩ = some v := by
  rw [(bcell hb).1 _ _ h0]; exact hc

set_option maxHeartbeats 400000 in
theorem low_exact (h m l : Int) (w : World) :
    Calls Try.prog 12 #[.agg #[.int .u64 h, .int .u64 m, .int .u64 l]] w fun e w' => e = .returned (.agg #[.int .u64 m, .int .u64 l]) ∧ ∃ c d, w' = (w.alloc (.cells c 32)).alloc (.cells d 24) := by
  go_enter Try.func12, Try.ntmps12
  go_wp2
  simp [bodyPost, results, Try.results12, go_sem]
  exact ⟨_, _, rfl⟩
theorem tmod64 (n : Int) : -64 < n.tmod 64 ∧ n.tmod 64 < 64 := by
  rcases Int.le_total 0 n with h | h
  · rw [Int.tmod_eq_emod_of_nonneg h]; omega
  · obtain ⟨m, rfl⟩ : ∃ m, n = -m := ⟨-n, by omega⟩
    rw [Int.neg_tmod, Int.tmod_eq_emod_of_nonneg (by omega)]; omega

set_option maxRecDepth 100000 in
set_option maxHeartbeats 4000000 in
theorem back_any (ah al bh bl n : Int) (h1 : Word ah) (h2 : Word al) (h3 : Word bh) (h4 : Word bl) (w : World) :
    Calls Try.prog 3 #[.agg #[.int .u64 ah, .int .u64 al], .agg #[.int .u64 bh, .int .u64 bl], .int .i64 n] w (TruePost w) := by
  obtain ⟨s1, s2, o, q1, q2, hadd, hsub⟩ := back_sum ah al bh bl h1 h2 h3 h4
  have Hadd := Lib.hid (fun w => (add_any ah al bh bl h1 h2 h3 h4 w).mono (AddPost.at q1 q2 hadd w))
  have Hsub := Lib.hid (fun w => (sub_any s1 s2 bh bl q1 q2 h3 h4 w).mono (SubPost.at h1 h2 hsub w))
  have H1 := Lib.hid h1; have H2 := Lib.hid h2; have H4 := Lib.hid h4
  have bl0 : 0 ≤ bl := h4.1
  clear h1 h2 h3 h4 q1 q2 hadd hsub
  go_enter Try.func3, Try.ntmps3
  go_wp2_with fail
  refine (shown_any _).mono ?_
  rintro e w1 ⟨rfl, hb1⟩
  have z1 := hb1.size; simp at z1
  have a10 : w1.cell? ⟨w.heap.size, 0, none⟩ = some (.int .u64 ah) := bcells hb1 (by simp; omega) (by simp [go_sem])
  have a11 : w1.cell? ⟨w.heap.size, 1, none⟩ = some (.int .u64 al) := bcells hb1 (by simp; omega) (by simp [go_sem])
  have b10 : w1.cell? ⟨w.heap.size + 1, 0, none⟩ = some (.int .u64 bh) := by rw [(bcell hb1).1 _ _ (by simp)]; simp [go_sem]
  have b11 : w1.cell? ⟨w.heap.size + 1, 1, none⟩ = some (.int .u64 bl) := by rw [(bcell hb1).1 _ _ (by simp)]; simp [go_sem]
  have hB1 : Below w.heap.size w w1 := (((Below.refl _ _).alloc (Nat.le_refl _) _).alloc (by simp) _).trans (hb1.mono (by simp; omega))
  clear hb1
  go_wp2_with fail
  refine (Hadd.out _).mono ?_
  rintro e w2 ⟨rfl, hb2⟩
  have z2 := hb2.size
  have a20 : w2.cell? ⟨w.heap.size, 0, none⟩ = some (.int .u64 ah) := by rw [(bcell hb2).1 _ _ (by omega)]; exact a10
  have a21 : w2.cell? ⟨w.heap.size, 1, none⟩ = some (.int .u64 al) := by rw [(bcell hb2).1 _ _ (by omega)]; exact a11
  have b20 : w2.cell? ⟨w.heap.size + 1, 0, none⟩ = some (.int .u64 bh) := by rw [(bcell hb2).1 _ _ (by omega)]; exact b10
  have b21 : w2.cell? ⟨w.heap.size + 1, 1, none⟩ = some (.int .u64 bl) := by rw [(bcell hb2).1 _ _ (by omega)]; exact b11
  have hB2 : Below w.heap.size w w2 := hB1.trans (hb2.mono (by omega))
  have y2 : w.heap.size + 1 < w2.heap.size := by omega
  have y2' : w.heap.size < w2.heap.size := by omega
  clear hb2 a10 a11 b10 b11 hB1
  go_wp2_with fail
  refine (Hsub.out _).mono ?_
  rintro e w3 ⟨rfl, hb3⟩
  have z3 := hb3.size; simp at z3
  have a30 : w3.cell? ⟨w.heap.size, 0, none⟩ = some (.int .u64 ah) := by rw [(bcell hb3).1 _ _ (by simp; omega)]; simp [go_sem, a20, y2']
  have a31 : w3.cell? ⟨w.heap.size, 1, none⟩ = some (.int .u64 al) := by rw [(bcell hb3).1 _ _ (by simp; omega)]; simp [go_sem, a21, y2']
  have b30 : w3.cell? ⟨w.heap.size + 1, 0, none⟩ = some (.int .u64 bh) := by rw [(bcell hb3).1 _ _ (by simp; omega)]; simp [go_sem, b20, y2]
  have b31 : w3.cell? ⟨w.heap.size + 1, 1, none⟩ = some (.int .u64 bl) := by rw [(bcell hb3).1 _ _ (by simp; omega)]; simp [go_sem, b21, y2]
  have hB3 : Below w.heap.size w w3 := (hB2.alloc (by omega) _).trans (hb3.mono (by simp; omega))
  have y3 : w.heap.size + 1 < w3.heap.size := by omega
  have y3' : w.heap.size < w3.heap.size := by omega
  have hB3' := Lib.hid hB3
  clear hb3 a20 a21 b20 b21 hB2 hB3
  go_upto_if 48 with fail
  go_cut [13] (fun _ wx => Below w.heap.size w wx ∧ wx.cell? ⟨w.heap.size, 0, none⟩ = some (.int .u64 ah) ∧ wx.cell? ⟨w.heap.size, 1, none⟩ = some (.int .u64 al) ∧ w.heap.size < wx.heap.size)
  case first =>
    by_cases hpos : 0 < bl
    · obtain ⟨x, y, r, m, l, d1, d2, d3, d4, d5, d6, d7, d8, d9, d10⟩ := back_div ah al bl H1.out H2.out H4.out hpos
      have Hdiv := Lib.hid (fun w => (div_any ah al bl H1.out H2.out H4.out hpos w).mono (DivPost.at d1 d2 d6 d7 w))
      have Htim := Lib.hid (fun w => (times_any x y bl d1 d2 H4.out w).mono (U192Post.at (by decide) d4 d5 d9 w))
      have Hlow := Lib.hid (fun w => (low_any 0 m l w))
      have Hsum := Lib.hid (fun w => (add_any m l 0 r d4 d5 (by decide) d3 w).mono (AddPost.at H1.out H2.out (.inr ⟨rfl, d10.symm⟩) w))
      have hr : (0 : Int) ≤ r := d3.1
      clear d1 d2 d3 d4 d5 d6 d7 d9 d10
      go_wp2_with fail
      refine (Hdiv.out _).mono ?_
      rintro e w4 ⟨rfl, hb4⟩
      have z4 := hb4.size; simp at z4
      have a40 : w4.cell? ⟨w.heap.size, 0, none⟩ = some (.int .u64 ah) := by rw [(bcell hb4).1 _ _ (by simp; omega)]; simp [go_sem, a30, y3']
      have a41 : w4.cell? ⟨w.heap.size, 1, none⟩ = some (.int .u64 al) := by rw [(bcell hb4).1 _ _ (by simp; omega)]; simp [go_sem, a31, y3']
      have b41 : w4.cell? ⟨w.heap.size + 1, 1, none⟩ = some (.int .u64 bl) := by rw [(bcell hb4).1 _ _ (by simp; omega)]; simp [go_sem, b31, y3]
      have hB4 : Below w.heap.size w w4 := (hB3'.out.alloc (by omega) _).trans (hb4.mono (by simp; omega))
      have y4 : w.heap.size + 1 < w4.heap.size := by omega
      have y4' : w.heap.size < w4.heap.size := by omega
      clear hb4 a30 a31 b30 b31
      go_wp2_with fail
      refine (Htim.out _).mono ?_
      rintro e w5 ⟨rfl, hb5⟩
      have z5 := hb5.size; simp at z5
      have a50 : w5.cell? ⟨w.heap.size, 0, none⟩ = some (.int .u64 ah) := by rw [(bcell hb5).1 _ _ (by simp; omega)]; simp [go_sem, a40, y4']
      have a51 : w5.cell? ⟨w.heap.size, 1, none⟩ = some (.int .u64 al) := by rw [(bcell hb5).1 _ _ (by simp; omega)]; simp [go_sem, a41, y4']
      have b51 : w5.cell? ⟨w.heap.size + 1, 1, none⟩ = some (.int .u64 bl) := by rw [(bcell hb5).1 _ _ (by simp; omega)]; simp [go_sem, b41, y4]
      have hB5 : Below w.heap.size w w5 := (hB4.alloc (by omega) _).trans (hb5.mono (by simp; omega))
      have y5 : w.heap.size + 1 < w5.heap.size := by omega
      have y5' : w.heap.size < w5.heap.size := by omega
      clear hb5 a40 a41 b41 hB4
      go_wp2_with fail
      refine (Hlow.out _).mono ?_
      rintro e w6 ⟨rfl, hb6⟩
      have z6 := hb6.size; simp at z6
      have a60 : w6.cell? ⟨w.heap.size, 0, none⟩ = some (.int .u64 ah) := by rw [(bcell hb6).1 _ _ (by simp; omega)]; simp [go_sem, a50, y5']
      have a61 : w6.cell? ⟨w.heap.size, 1, none⟩ = some (.int .u64 al) := by rw [(bcell hb6).1 _ _ (by simp; omega)]; simp [go_sem, a51, y5']
      have b61 : w6.cell? ⟨w.heap.size + 1, 1, none⟩ = some (.int .u64 bl) := by rw [(bcell hb6).1 _ _ (by simp; omega)]; simp [go_sem, b51, y5]
      have p60 : w6.cell? ⟨w5.heap.size, 0, none⟩ = some (.int .u64 0) := by rw [(bcell hb6).1 _ _ (by simp)]; simp [go_sem]
      have hB6 : Below w.heap.size w w6 := (hB5.alloc (by omega) _).trans (hb6.mono (by simp; omega))
      have y6 : w.heap.size + 1 < w6.heap.size := by omega
      have y6' : w.heap.size < w6.heap.size := by omega
      have y56 : w5.heap.size < w6.heap.size := by omega
      clear hb6 a50 a51 b51 hB5
      go_wp2_with fail
      refine (Hsum.out _).mono ?_
      rintro e w7 ⟨rfl, hb7⟩
      have z7 := hb7.size
      have a70 : w7.cell? ⟨w.heap.size, 0, none⟩ = some (.int .u64 ah) := by rw [(bcell hb7).1 _ _ (by omega)]; exact a60
      have a71 : w7.cell? ⟨w.heap.size, 1, none⟩ = some (.int .u64 al) := by rw [(bcell hb7).1 _ _ (by omega)]; exact a61
      have b71 : w7.cell? ⟨w.heap.size + 1, 1, none⟩ = some (.int .u64 bl) := by rw [(bcell hb7).1 _ _ (by omega)]; exact b61
      have p70 : w7.cell? ⟨w5.heap.size, 0, none⟩ = some (.int .u64 0) := by rw [(bcell hb7).1 _ _ (by omega)]; exact p60
      have hB7 : Below w.heap.size w w7 := hB6.trans (hb7.mono (by omega))
      have y7 : w.heap.size + 1 < w7.heap.size := by omega
      have y7' : w.heap.size < w7.heap.size := by omega
      have y57 : w5.heap.size < w7.heap.size := by omega
      have hB7' := Lib.hid hB7
      clear hb7 a60 a61 b61 p60 hB6 hB7
      go_wp2
      go_meet
      exact ⟨hB7'.out.alloc (by omega) _, by simp [go_sem, a70, y7'], by simp [go_sem, a71, y7'], by simp; omega⟩
    · go_wp2
      go_meet
      exact ⟨hB3'.out.alloc (by omega) _, by simp [go_sem, a30, y3'], by simp [go_sem, a31, y3'], by simp; omega⟩
  case rest =>
    clear a30 a31 b30 b31 y3 y3' hB3' z1 z2 z3 y2 y2'
    obtain ⟨hBc, ac0, ac1, yc⟩ := hcut
    have HBc := Lib.hid hBc; clear hBc
    obtain ⟨t1, t2⟩ := tmod64 n
    obtain ⟨t, ht⟩ : ∃ t, n.tmod 64 = t := ⟨_, rfl⟩
    rw [ht] at t1 t2
    go_upto_if 89 with fail
    go_cut [18] (fun v wx => ∃ k : Int, v = .int .i64 k ∧ 0 ≤ k ∧ k < 64 ∧ wc = wx)
    case first =>
      by_cases hneg : t < 0
      · go_wp2
        go_meet
        exact ⟨-t, rfl, by omega, by omega, rfl⟩
      · go_wp2
        go_meet
        exact ⟨t, rfl, by omega, by omega, rfl⟩
    case rest =>
      obtain ⟨k, rfl, k0, k1, rfl⟩ := hcut
      clear ht t1 t2
      have hw := pw_word k k0 k1
      obtain ⟨a, b, c, d1, d2, d3, d4, d5, d6⟩ := back_drop ah al k H1.out H2.out k0 k1
      have Htim := Lib.hid (fun w => (times_any ah al (pw k) H1.out H2.out hw w).mono (U192Post.at d1 d2 d3 d4 w))
      have Hdrop := Lib.hid (fun w => (drop_any a b c k d1 d2 d3 (by omega) (by omega) w).mono (DropPost.at (by decide) H1.out H2.out d5 d6 w))
      have Hlow := Lib.hid (fun w => (low_exact 0 ah al w))
      have hwr : IntKind.u64.wrap (2 ^ k.toNat) = pw k := by
        rw [pw_eq, IntKind.wrap_u64, Int.emod_eq_of_lt hw.1 hw.2]
      clear hw d1 d2 d3 d4 d5 d6
      go_wp2_with fail
      refine (Htim.out _).mono ?_
      rintro e w5 ⟨rfl, hb5⟩
      have z5 := hb5.size
      have a50 : w5.cell? ⟨w.heap.size, 0, none⟩ = some (.int .u64 ah) := by rw [(bcell hb5).1 _ _ (by omega)]; exact ac0
      have a51 : w5.cell? ⟨w.heap.size, 1, none⟩ = some (.int .u64 al) := by rw [(bcell hb5).1 _ _ (by omega)]; exact ac1
      have hB5 : Below w.heap.size w w5 := HBc.out.trans (hb5.mono (by omega))
      have y5 : w.heap.size < w5.heap.size := by omega
      clear hb5 ac0 ac1
      go_wp2_with fail
      refine (Hdrop.out _).mono ?_
      rintro e w6 ⟨rfl, hb6⟩
      have z6 := hb6.size
      have a60 : w6.cell? ⟨w.heap.size, 0, none⟩ = some (.int .u64 ah) := by rw [(bcell hb6).1 _ _ (by omega)]; exact a50
      have a61 : w6.cell? ⟨w.heap.size, 1, none⟩ = some (.int .u64 al) := by rw [(bcell hb6).1 _ _ (by omega)]; exact a51
      have hB6 : Below w.heap.size w w6 := hB5.trans (hb6.mono (by omega))
      have y6 : w.heap.size < w6.heap.size := by omega
      have x1 : w.heap.size ≤ w6.heap.size := by omega
      have x2 : w.heap.size < w6.heap.size + 1 := by omega
      have x3 : w.heap.size ≤ w6.heap.size + 1 := by omega
      have x4 : w.heap.size < w6.heap.size + 1 + 1 := by omega
      have x5 : w.heap.size ≤ w6.heap.size + 1 + 1 := by omega
      have x6 : w.heap.size < w6.heap.size + 1 + 1 + 1 := by omega
      have HB6 := Lib.hid hB6
      clear hb6 a50 a51 hB5 hB6
      go_wp2_with fail
      go_region_held3 (fun w' => w'.cell? ⟨w.heap.size, 0, none⟩ = some (.int .u64 ah) ∧ w'.cell? ⟨w.heap.size, 1, none⟩ = some (.int .u64 al) ∧ w'.cell? ⟨w6.heap.size, 0, none⟩ = some (.int .u64 0) ∧ w'.cell? ⟨w6.heap.size, 1, none⟩ = some (.int .u64 ah) ∧ w'.cell? ⟨w6.heap.size, 2, none⟩ = some (.int .u64 al)) (simp [*, go_sem])
        ((go_at_call 12; refine (Hlow.out _).mono ?_; rintro e w7 ⟨rfl, c7, d7, rfl⟩))
      go_wp2_with fail
      refine (len_any ah al H1.out H2.out _).mono ?_
      rintro e w8 ⟨n8, rfl, hn8, hlt8, _, hb8⟩
      have z8 := hb8.size; simp at z8
      have y8 : w.heap.size < w8.heap.size := by omega
      have a80 : w8.cell? ⟨w.heap.size, 0, none⟩ = some (.int .u64 ah) := by rw [(bcell hb8).1 _ _ (by simp; omega)]; simp [go_sem, a60, y6, x2, x4]
      have a81 : w8.cell? ⟨w.heap.size, 1, none⟩ = some (.int .u64 al) := by rw [(bcell hb8).1 _ _ (by simp; omega)]; simp [go_sem, a61, y6, x2, x4]
      have hB8 : Below w.heap.size w w8 := (((HB6.out.alloc (by omega) _).alloc (by simp; omega) _).alloc (by simp; omega) _).drew.trans (hb8.mono (by simp; omega))
      have HB8 := Lib.hid hB8
      have HL := Lib.hid hlt8
      clear hb8 a60 a61 hB8 hlt8
      by_cases hlen : 128 < (n8 : Int) + k
      · go_wp2
        go_ret
        exact ⟨rfl, HB8.out⟩
      · obtain ⟨x, y, d1, d2, d3, d4, d5⟩ := back_shift ah al k n8 H1.out H2.out k0 k1 HL.out (by omega)
        have Hshl := Lib.hid (fun w => (shl_any ah al k H1.out H2.out (by omega) w).mono (U128Post.at d1 d2 d3 w))
        have Hshr := Lib.hid (fun w => (shr_any x y k d1 d2 (by omega) w).mono (ShrPost.at H1.out H2.out d4 d5 w))
        clear d1 d2 d3 d4 d5
        go_wp2_with fail
        refine (Hshl.out _).mono ?_
        rintro e w9 ⟨rfl, hb9⟩
        have z9 := hb9.size
        have y9 : w.heap.size < w9.heap.size := by omega
        have a90 : w9.cell? ⟨w.heap.size, 0, none⟩ = some (.int .u64 ah) := by rw [(bcell hb9).1 _ _ (by omega)]; exact a80
        have a91 : w9.cell? ⟨w.heap.size, 1, none⟩ = some (.int .u64 al) := by rw [(bcell hb9).1 _ _ (by omega)]; exact a81
        have HB9 : Hid (Below w.heap.size w w9) := HB8.out.trans (hb9.mono (by omega))
        clear hb9 a80 a81
        go_wp2_with fail
        refine (Hshr.out _).mono ?_
        rintro e w10 ⟨rfl, hb10⟩
        have z10 := hb10.size
        have y10 : w.heap.size < w10.heap.size := by omega
        have a100 : w10.cell? ⟨w.heap.size, 0, none⟩ = some (.int .u64 ah) := by rw [(bcell hb10).1 _ _ (by omega)]; exact a90
        have a101 : w10.cell? ⟨w.heap.size, 1, none⟩ = some (.int .u64 al) := by rw [(bcell hb10).1 _ _ (by omega)]; exact a91
        have HB10 : Hid (Below w.heap.size w w10) := HB9.out.trans (hb10.mono (by omega))
        clear hb10 a90 a91
        go_wp2
        go_ret
        exact ⟨rfl, HB10.out.alloc (by omega) _⟩
end Go.Proofs.Ytcalkaeogogcbaa
