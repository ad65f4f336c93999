/-
  The head of chapter 1's statements: walked.
-/
import Derived.Test.YtmjidpkddiinaaaDoorX7
namespace Go.Proofs.YtmjidpkddiinaaaDoor
open Go.RowKit Go.Shelf

theorem via1 {w X x : World} (h1 : Below w.heap.size w X) (h2 : Below X.heap.size X x) : Below w.heap.size w x := h1.trans (h2.mono h1.size)
set_option maxRecDepth 100000 in
set_option maxHeartbeats 20000000 in
theorem shown_any (w : World) : Calls Tryd.prog 11 #[] w fun e w' => e = .returned (.bool true) ∧ Below w.heap.size w w' := by
  have HB := Lib.hid (Below.refl w.heap.size w)
  go_enter Tryd.func11, Tryd.ntmps11
  go_wp2_with fail
  refine (ex_trim _ (by repeat' first | (refine lit_slN _ _ _ _ _ ?_ rfl rfl (by decide) (by decide); (simp [go_sem]; done)) | refine Sl.alloc ?_ _)).mono ?_
  rintro e x1 ⟨Aa, na, ca, rfl, Pa, La, hb⟩
  replace HB := Lib.hid (via1 (w := w) (by repeat' first | exact HB.out | refine below_al ?_ _) hb)
  clear hb
  replace Pa := Lib.hid Pa
  go_wp2_with fail
  refine (same_any _ _ _ _ _ _ [5] _ (by repeat' first | exact Pa.out | refine Sl.alloc ?_ _) (by repeat' first | (refine lit_slN _ _ _ _ _ ?_ rfl rfl (by decide) (by decide); (simp [go_sem]; done)) | refine Sl.alloc ?_ _) (by have := La; simp at this; omega)).mono ?_
  rintro e x2 ⟨rfl, hb⟩
  clear Pa La
  replace HB := Lib.hid (via1 (w := w) (by repeat' first | exact HB.out | refine below_al ?_ _) hb)
  clear hb
  go_wp2_with fail
  refine (ex_of _).mono ?_
  rintro e x3 ⟨Ab, nb, cb, rfl, Pb, Lb, hb⟩
  replace HB := Lib.hid (via1 (w := w) (by repeat' first | exact HB.out | refine below_al ?_ _) hb)
  clear hb
  replace Pb := Lib.hid Pb
  go_wp2_with fail
  refine (same_any _ _ _ _ _ _ [0, 1] _ (by repeat' first | exact Pb.out | refine Sl.alloc ?_ _) (by repeat' first | (refine lit_slN _ _ _ _ _ ?_ rfl rfl (by decide) (by decide); (simp [go_sem]; done)) | refine Sl.alloc ?_ _) (by have := Lb; simp at this; omega)).mono ?_
  rintro e x4 ⟨rfl, hb⟩
  clear Pb Lb
  replace HB := Lib.hid (via1 (w := w) (by repeat' first | exact HB.out | refine below_al ?_ _) hb)
  clear hb
  go_wp2_with fail
  refine (ex_value1 _ (by repeat' first | (refine lit_slN _ _ _ _ _ ?_ rfl rfl (by decide) (by decide); (simp [go_sem]; done)) | refine Sl.alloc ?_ _)).mono ?_
  rintro e x5 ⟨rfl, hb⟩
  replace HB := Lib.hid (via1 (w := w) (by repeat' first | exact HB.out | refine below_al ?_ _) hb)
  clear hb
  go_wp2_with fail
  refine (ex_value2 _ (by repeat' first | (refine lit_slN _ _ _ _ _ ?_ rfl rfl (by decide) (by decide); (simp [go_sem]; done)) | refine Sl.alloc ?_ _)).mono ?_
  rintro e x6 ⟨rfl, hb⟩
  replace HB := Lib.hid (via1 (w := w) (by repeat' first | exact HB.out | refine below_al ?_ _) hb)
  clear hb
  go_wp2_with fail
  refine (ex_add _ (by repeat' first | (refine lit_slN _ _ _ _ _ ?_ rfl rfl (by decide) (by decide); (simp [go_sem]; done)) | refine Sl.alloc ?_ _) (by repeat' first | (refine lit_slN _ _ _ _ _ ?_ rfl rfl (by decide) (by decide); (simp [go_sem]; done)) | refine Sl.alloc ?_ _)).mono ?_
  rintro e x7 ⟨Ac, nc, cc, rfl, Pc, Lc, hb⟩
  replace HB := Lib.hid (via1 (w := w) (by repeat' first | exact HB.out | refine below_al ?_ _) hb)
  clear hb
  replace Pc := Lib.hid Pc
  go_wp2_with fail
  refine (ex_sub1 _ (by repeat' first | (refine lit_slN _ _ _ _ _ ?_ rfl rfl (by decide) (by decide); (simp [go_sem]; done)) | refine Sl.alloc ?_ _) (by repeat' first | (refine lit_slN _ _ _ _ _ ?_ rfl rfl (by decide) (by decide); (simp [go_sem]; done)) | refine Sl.alloc ?_ _)).mono ?_
  rintro e x8 ⟨Ad, nd, cd, rfl, Pd, Ld, hb⟩
  replace HB := Lib.hid (via1 (w := w) (by repeat' first | exact HB.out | refine below_al ?_ _) hb)
  replace Pc := Lib.hid (Sl.on (A := Ac) (n := nc) (c := cc) (l := [0, 1]) (by repeat' first | exact Pc.out | refine Sl.alloc ?_ _) hb)
  clear hb
  replace Pd := Lib.hid Pd
  go_wp2_with fail
  refine (ex_sub2 _ (by repeat' first | (refine lit_slN _ _ _ _ _ ?_ rfl rfl (by decide) (by decide); (simp [go_sem]; done)) | refine Sl.alloc ?_ _) (by repeat' first | (refine lit_slN _ _ _ _ _ ?_ rfl rfl (by decide) (by decide); (simp [go_sem]; done)) | refine Sl.alloc ?_ _)).mono ?_
  rintro e x9 ⟨Ae0, ne0, ce0, rfl, Pe0, Le0, hb⟩
  replace HB := Lib.hid (via1 (w := w) (by repeat' first | exact HB.out | refine below_al ?_ _) hb)
  replace Pc := Lib.hid (Sl.on (A := Ac) (n := nc) (c := cc) (l := [0, 1]) (by repeat' first | exact Pc.out | refine Sl.alloc ?_ _) hb)
  replace Pd := Lib.hid (Sl.on (A := Ad) (n := nd) (c := cd) (l := [4294967295]) (by repeat' first | exact Pd.out | refine Sl.alloc ?_ _) hb)
  clear hb
  clear Pe0
  go_wp2_with fail
  refine (ex_mul _ (by repeat' first | (refine lit_slN _ _ _ _ _ ?_ rfl rfl (by decide) (by decide); (simp [go_sem]; done)) | refine Sl.alloc ?_ _) (by repeat' first | (refine lit_slN _ _ _ _ _ ?_ rfl rfl (by decide) (by decide); (simp [go_sem]; done)) | refine Sl.alloc ?_ _)).mono ?_
  rintro e x10 ⟨Ah, nh, ch, rfl, Ph, Lh, hb⟩
  replace HB := Lib.hid (via1 (w := w) (by repeat' first | exact HB.out | refine below_al ?_ _) hb)
  replace Pc := Lib.hid (Sl.on (A := Ac) (n := nc) (c := cc) (l := [0, 1]) (by repeat' first | exact Pc.out | refine Sl.alloc ?_ _) hb)
  replace Pd := Lib.hid (Sl.on (A := Ad) (n := nd) (c := cd) (l := [4294967295]) (by repeat' first | exact Pd.out | refine Sl.alloc ?_ _) hb)
  clear hb
  replace Ph := Lib.hid Ph
  go_wp2_with fail
  refine (ex_div1 _ (by repeat' first | (refine lit_slN _ _ _ _ _ ?_ rfl rfl (by decide) (by decide); (simp [go_sem]; done)) | refine Sl.alloc ?_ _) (by repeat' first | (refine lit_slN _ _ _ _ _ ?_ rfl rfl (by decide) (by decide); (simp [go_sem]; done)) | refine Sl.alloc ?_ _)).mono ?_
  rintro e x11 ⟨Aq, nq, cq, Ar, nr, cr, rfl, Pq, Lq, Pr, Lr, hb⟩
  replace HB := Lib.hid (via1 (w := w) (by repeat' first | exact HB.out | refine below_al ?_ _) hb)
  replace Pc := Lib.hid (Sl.on (A := Ac) (n := nc) (c := cc) (l := [0, 1]) (by repeat' first | exact Pc.out | refine Sl.alloc ?_ _) hb)
  replace Pd := Lib.hid (Sl.on (A := Ad) (n := nd) (c := cd) (l := [4294967295]) (by repeat' first | exact Pd.out | refine Sl.alloc ?_ _) hb)
  replace Ph := Lib.hid (Sl.on (A := Ah) (n := nh) (c := ch) (l := [0, 0, 1]) (by repeat' first | exact Ph.out | refine Sl.alloc ?_ _) hb)
  clear hb
  replace Pq := Lib.hid Pq
  replace Pr := Lib.hid Pr
  go_wp2_with fail
  refine (ex_div2 _ (by repeat' first | (refine lit_slN _ _ _ _ _ ?_ rfl rfl (by decide) (by decide); (simp [go_sem]; done)) | refine Sl.alloc ?_ _)).mono ?_
  rintro e x12 ⟨Aq2, nq2, cq2, Ar2, nr2, cr2, rfl, Pq2, Lq2, Pr2, Lr2, hb⟩
  replace HB := Lib.hid (via1 (w := w) (by repeat' first | exact HB.out | refine below_al ?_ _) hb)
  replace Pc := Lib.hid (Sl.on (A := Ac) (n := nc) (c := cc) (l := [0, 1]) (by repeat' first | exact Pc.out | refine Sl.alloc ?_ _) hb)
  replace Pd := Lib.hid (Sl.on (A := Ad) (n := nd) (c := cd) (l := [4294967295]) (by repeat' first | exact Pd.out | refine Sl.alloc ?_ _) hb)
  replace Ph := Lib.hid (Sl.on (A := Ah) (n := nh) (c := ch) (l := [0, 0, 1]) (by repeat' first | exact Ph.out | refine Sl.alloc ?_ _) hb)
  replace Pq := Lib.hid (Sl.on (A := Aq) (n := nq) (c := cq) (l := [3]) (by repeat' first | exact Pq.out | refine Sl.alloc ?_ _) hb)
  replace Pr := Lib.hid (Sl.on (A := Ar) (n := nr) (c := cr) (l := [1]) (by repeat' first | exact Pr.out | refine Sl.alloc ?_ _) hb)
  clear hb
  clear Pq2
  clear Pr2
  go_wp2_with fail
  refine (same_any _ _ _ _ _ _ [0, 1] _ (by repeat' first | exact Pc.out | refine Sl.alloc ?_ _) (by repeat' first | (refine lit_slN _ _ _ _ _ ?_ rfl rfl (by decide) (by decide); (simp [go_sem]; done)) | refine Sl.alloc ?_ _) (by have := Lc; simp at this; omega)).mono ?_
  rintro e x13 ⟨rfl, hb⟩
  clear Pc Lc
  replace HB := Lib.hid (via1 (w := w) (by repeat' first | exact HB.out | refine below_al ?_ _) hb)
  replace Pd := Lib.hid (Sl.on (A := Ad) (n := nd) (c := cd) (l := [4294967295]) (by repeat' first | exact Pd.out | refine Sl.alloc ?_ _) hb)
  replace Ph := Lib.hid (Sl.on (A := Ah) (n := nh) (c := ch) (l := [0, 0, 1]) (by repeat' first | exact Ph.out | refine Sl.alloc ?_ _) hb)
  replace Pq := Lib.hid (Sl.on (A := Aq) (n := nq) (c := cq) (l := [3]) (by repeat' first | exact Pq.out | refine Sl.alloc ?_ _) hb)
  replace Pr := Lib.hid (Sl.on (A := Ar) (n := nr) (c := cr) (l := [1]) (by repeat' first | exact Pr.out | refine Sl.alloc ?_ _) hb)
  clear hb
  go_wp2_with fail
  refine (same_any _ _ _ _ _ _ [4294967295] _ (by repeat' first | exact Pd.out | refine Sl.alloc ?_ _) (by repeat' first | (refine lit_slN _ _ _ _ _ ?_ rfl rfl (by decide) (by decide); (simp [go_sem]; done)) | refine Sl.alloc ?_ _) (by have := Ld; simp at this; omega)).mono ?_
  rintro e x14 ⟨rfl, hb⟩
  clear Pd Ld
  replace HB := Lib.hid (via1 (w := w) (by repeat' first | exact HB.out | refine below_al ?_ _) hb)
  replace Ph := Lib.hid (Sl.on (A := Ah) (n := nh) (c := ch) (l := [0, 0, 1]) (by repeat' first | exact Ph.out | refine Sl.alloc ?_ _) hb)
  replace Pq := Lib.hid (Sl.on (A := Aq) (n := nq) (c := cq) (l := [3]) (by repeat' first | exact Pq.out | refine Sl.alloc ?_ _) hb)
  replace Pr := Lib.hid (Sl.on (A := Ar) (n := nr) (c := cr) (l := [1]) (by repeat' first | exact Pr.out | refine Sl.alloc ?_ _) hb)
  clear hb
  go_wp2_with fail
  refine (same_any _ _ _ _ _ _ [0, 0, 1] _ (by repeat' first | exact Ph.out | refine Sl.alloc ?_ _) (by repeat' first | (refine lit_slN _ _ _ _ _ ?_ rfl rfl (by decide) (by decide); (simp [go_sem]; done)) | refine Sl.alloc ?_ _) (by have := Lh; simp at this; omega)).mono ?_
  rintro e x15 ⟨rfl, hb⟩
  clear Ph Lh
  replace HB := Lib.hid (via1 (w := w) (by repeat' first | exact HB.out | refine below_al ?_ _) hb)
  replace Pq := Lib.hid (Sl.on (A := Aq) (n := nq) (c := cq) (l := [3]) (by repeat' first | exact Pq.out | refine Sl.alloc ?_ _) hb)
  replace Pr := Lib.hid (Sl.on (A := Ar) (n := nr) (c := cr) (l := [1]) (by repeat' first | exact Pr.out | refine Sl.alloc ?_ _) hb)
  clear hb
  go_wp2_with fail
  refine (same_any _ _ _ _ _ _ [3] _ (by repeat' first | exact Pq.out | refine Sl.alloc ?_ _) (by repeat' first | (refine lit_slN _ _ _ _ _ ?_ rfl rfl (by decide) (by decide); (simp [go_sem]; done)) | refine Sl.alloc ?_ _) (by have := Lq; simp at this; omega)).mono ?_
  rintro e x16 ⟨rfl, hb⟩
  clear Pq Lq
  replace HB := Lib.hid (via1 (w := w) (by repeat' first | exact HB.out | refine below_al ?_ _) hb)
  replace Pr := Lib.hid (Sl.on (A := Ar) (n := nr) (c := cr) (l := [1]) (by repeat' first | exact Pr.out | refine Sl.alloc ?_ _) hb)
  clear hb
  go_wp2_with fail
  refine (same_any _ _ _ _ _ _ [1] _ (by repeat' first | exact Pr.out | refine Sl.alloc ?_ _) (by repeat' first | (refine lit_slN _ _ _ _ _ ?_ rfl rfl (by decide) (by decide); (simp [go_sem]; done)) | refine Sl.alloc ?_ _) (by have := Lr; simp at this; omega)).mono ?_
  rintro e x17 ⟨rfl, hb⟩
  clear Pr Lr
  replace HB := Lib.hid (via1 (w := w) (by repeat' first | exact HB.out | refine below_al ?_ _) hb)
  clear hb
  go_wp2_with fail
  refine (ex_len _ (by repeat' first | (refine lit_slN _ _ _ _ _ ?_ rfl rfl (by decide) (by decide); (simp [go_sem]; done)) | refine Sl.alloc ?_ _)).mono ?_
  rintro e x18 ⟨rfl, rfl⟩
  replace HB := Lib.hid (show Below w.heap.size w _ by repeat' first | exact HB.out | refine below_al ?_ _)
  go_wp2_with fail
  refine (ex_shl1 _ (by repeat' first | (refine lit_slN _ _ _ _ _ ?_ rfl rfl (by decide) (by decide); (simp [go_sem]; done)) | refine Sl.alloc ?_ _)).mono ?_
  rintro e x19 ⟨Al, nl, cl, rfl, Pl, Ll, hb⟩
  replace HB := Lib.hid (via1 (w := w) (by repeat' first | exact HB.out | refine below_al ?_ _) hb)
  clear hb
  replace Pl := Lib.hid Pl
  go_wp2_with fail
  refine (ex_shr _ (by repeat' first | (refine lit_slN _ _ _ _ _ ?_ rfl rfl (by decide) (by decide); (simp [go_sem]; done)) | refine Sl.alloc ?_ _)).mono ?_
  rintro e x20 ⟨Ann, nnn, cnn, rfl, Pnn, Lnn, hb⟩
  replace HB := Lib.hid (via1 (w := w) (by repeat' first | exact HB.out | refine below_al ?_ _) hb)
  replace Pl := Lib.hid (Sl.on (A := Al) (n := nl) (c := cl) (l := [0, 2]) (by repeat' first | exact Pl.out | refine Sl.alloc ?_ _) hb)
  clear hb
  clear Pnn
  obtain rfl : nnn = 0 := by simpa using Lnn.symm
  go_wp2_with fail
  refine (ex_shl2 _ (by repeat' first | (refine lit_slN _ _ _ _ _ ?_ rfl rfl (by decide) (by decide); (simp [go_sem]; done)) | refine Sl.alloc ?_ _)).mono ?_
  rintro e x21 ⟨Ao, no, co, rfl, Po, Lo, hb⟩
  replace HB := Lib.hid (via1 (w := w) (by repeat' first | exact HB.out | refine below_al ?_ _) hb)
  replace Pl := Lib.hid (Sl.on (A := Al) (n := nl) (c := cl) (l := [0, 2]) (by repeat' first | exact Pl.out | refine Sl.alloc ?_ _) hb)
  clear hb
  clear Po
  go_wp2_with fail
  refine (ex_shl3 _).mono ?_
  rintro e x22 ⟨Az, nz, cz, rfl, Pz, Lz, hb⟩
  replace HB := Lib.hid (via1 (w := w) (by repeat' first | exact HB.out | refine below_al ?_ _) hb)
  replace Pl := Lib.hid (Sl.on (A := Al) (n := nl) (c := cl) (l := [0, 2]) (by repeat' first | exact Pl.out | refine Sl.alloc ?_ _) hb)
  clear hb
  clear Pz
  obtain rfl : nz = 0 := by simpa using Lz.symm
  go_wp2_with fail
  refine (ex_pow1 _).mono ?_
  rintro e x23 ⟨At, nt, ct, rfl, Pt, Lt, hb⟩
  replace HB := Lib.hid (via1 (w := w) (by repeat' first | exact HB.out | refine below_al ?_ _) hb)
  replace Pl := Lib.hid (Sl.on (A := Al) (n := nl) (c := cl) (l := [0, 2]) (by repeat' first | exact Pl.out | refine Sl.alloc ?_ _) hb)
  clear hb
  replace Pt := Lib.hid Pt
  go_wp2_with fail
  refine (ex_pow2 _).mono ?_
  rintro e x24 ⟨Au, nu, cu, rfl, Pu, Lu, hb⟩
  replace HB := Lib.hid (via1 (w := w) (by repeat' first | exact HB.out | refine below_al ?_ _) hb)
  replace Pl := Lib.hid (Sl.on (A := Al) (n := nl) (c := cl) (l := [0, 2]) (by repeat' first | exact Pl.out | refine Sl.alloc ?_ _) hb)
  replace Pt := Lib.hid (Sl.on (A := At) (n := nt) (c := ct) (l := [1410065408, 2]) (by repeat' first | exact Pt.out | refine Sl.alloc ?_ _) hb)
  clear hb
  replace Pu := Lib.hid Pu
  go_wp2_with fail
  refine (ex_pow3 _).mono ?_
  rintro e x25 ⟨Ay, ny, cy, rfl, Py, Ly, hb⟩
  replace HB := Lib.hid (via1 (w := w) (by repeat' first | exact HB.out | refine below_al ?_ _) hb)
  replace Pl := Lib.hid (Sl.on (A := Al) (n := nl) (c := cl) (l := [0, 2]) (by repeat' first | exact Pl.out | refine Sl.alloc ?_ _) hb)
  replace Pt := Lib.hid (Sl.on (A := At) (n := nt) (c := ct) (l := [1410065408, 2]) (by repeat' first | exact Pt.out | refine Sl.alloc ?_ _) hb)
  replace Pu := Lib.hid (Sl.on (A := Au) (n := nu) (c := cu) (l := [1]) (by repeat' first | exact Pu.out | refine Sl.alloc ?_ _) hb)
  clear hb
  clear Py
  go_wp2_with fail
  refine (same_any _ _ _ _ _ _ [0, 2] _ (by repeat' first | exact Pl.out | refine Sl.alloc ?_ _) (by repeat' first | (refine lit_slN _ _ _ _ _ ?_ rfl rfl (by decide) (by decide); (simp [go_sem]; done)) | refine Sl.alloc ?_ _) (by have := Ll; simp at this; omega)).mono ?_
  rintro e x26 ⟨rfl, hb⟩
  clear Pl Ll
  replace HB := Lib.hid (via1 (w := w) (by repeat' first | exact HB.out | refine below_al ?_ _) hb)
  replace Pt := Lib.hid (Sl.on (A := At) (n := nt) (c := ct) (l := [1410065408, 2]) (by repeat' first | exact Pt.out | refine Sl.alloc ?_ _) hb)
  replace Pu := Lib.hid (Sl.on (A := Au) (n := nu) (c := cu) (l := [1]) (by repeat' first | exact Pu.out | refine Sl.alloc ?_ _) hb)
  clear hb
  go_wp2_with fail
  refine (same_any _ _ _ _ _ _ [1410065408, 2] _ (by repeat' first | exact Pt.out | refine Sl.alloc ?_ _) (by repeat' first | (refine lit_slN _ _ _ _ _ ?_ rfl rfl (by decide) (by decide); (simp [go_sem]; done)) | refine Sl.alloc ?_ _) (by have := Lt; simp at this; omega)).mono ?_
  rintro e x27 ⟨rfl, hb⟩
  clear Pt Lt
  replace HB := Lib.hid (via1 (w := w) (by repeat' first | exact HB.out | refine below_al ?_ _) hb)
  replace Pu := Lib.hid (Sl.on (A := Au) (n := nu) (c := cu) (l := [1]) (by repeat' first | exact Pu.out | refine Sl.alloc ?_ _) hb)
  clear hb
  go_wp2_with fail
  refine (same_any _ _ _ _ _ _ [1] _ (by repeat' first | exact Pu.out | refine Sl.alloc ?_ _) (by repeat' first | (refine lit_slN _ _ _ _ _ ?_ rfl rfl (by decide) (by decide); (simp [go_sem]; done)) | refine Sl.alloc ?_ _) (by have := Lu; simp at this; omega)).mono ?_
  rintro e x28 ⟨rfl, hb⟩
  clear Pu Lu
  replace HB := Lib.hid (via1 (w := w) (by repeat' first | exact HB.out | refine below_al ?_ _) hb)
  clear hb
  go_wp2_with fail
  refine (ex_parse1 _).mono ?_
  rintro e x29 ⟨Aaa, naa, caa, rfl, Paa, Laa, hb⟩
  replace HB := Lib.hid (via1 (w := w) (by repeat' first | exact HB.out | refine below_al ?_ _) hb)
  clear hb
  replace Paa := Lib.hid Paa
  go_wp2_with fail
  refine (ex_parse2 _).mono ?_
  rintro e x30 ⟨Acc, ncc, ccc, rfl, Pcc, Lcc, hb⟩
  replace HB := Lib.hid (via1 (w := w) (by repeat' first | exact HB.out | refine below_al ?_ _) hb)
  replace Paa := Lib.hid (Sl.on (A := Aaa) (n := naa) (c := caa) (l := [7]) (by repeat' first | exact Paa.out | refine Sl.alloc ?_ _) hb)
  clear hb
  clear Pcc
  go_wp2_with fail
  refine (same_any _ _ _ _ _ _ [7] _ (by repeat' first | exact Paa.out | refine Sl.alloc ?_ _) (by repeat' first | (refine lit_slN _ _ _ _ _ ?_ rfl rfl (by decide) (by decide); (simp [go_sem]; done)) | refine Sl.alloc ?_ _) (by have := Laa; simp at this; omega)).mono ?_
  rintro e x31 ⟨rfl, hb⟩
  clear Paa Laa
  replace HB := Lib.hid (via1 (w := w) (by repeat' first | exact HB.out | refine below_al ?_ _) hb)
  clear hb
  go_wp2_with fail
  refine (ex_digits _ (by repeat' first | (refine lit_slN _ _ _ _ _ ?_ rfl rfl (by decide) (by decide); (simp [go_sem]; done)) | refine Sl.alloc ?_ _)).mono ?_
  rintro e x32 ⟨rfl, hb⟩
  replace HB := Lib.hid (via1 (w := w) (by repeat' first | exact HB.out | refine below_al ?_ _) hb)
  clear hb
  go_wp2
  go_ret
  exact ⟨rfl, HB.out⟩
end Go.Proofs.YtmjidpkddiinaaaDoor
