/-
  The document's decimals: cut: walked.
-/
import Derived.Test.YtgjhpcmpgkfnkaaDoorA26
namespace Go.Proofs.YtgjhpcmpgkfnkaaDoor
open Go.RowKit Go.Shelf

theorem row_conv {W : World} {g c : Nat} {l : List UInt8} {o : Nat → Int} (h : RowC W g l.length o) (ho : ∀ (j : Nat) (hj : j < l.length), o j = ((l[j]).toNat : Int)) :
    (convert 43 9 (.slice (some ⟨g, 0, none⟩) l.length c)).run Tryd.prog W = .ok (.string ⟨l.toArray⟩) W :=
  run_convert_bytes_back W 43 9 5 ⟨g, 0, none⟩ c l Tryd.underlying43 Tryd.underlying5 Tryd.underlying9 (fun j hj => by
    rw [Addr.add_lit, Nat.zero_add, h.c j hj, ho j hj])
theorem heap_rowB {w : World} {base g N : Nat} {o : List Int} (hb : base ≤ g) (hl : o.length = N) (hN : N ≤ maxLen) (hh : w.heap[g]? = some (.cells (o.map (Value.int .u8)).toArray 5 (0, 0))) :
    w.ownsRow base 5 1 (.slice (some ⟨g, 0, none⟩) N N) N (o.map (Value.int .u8)) :=
  ⟨by simp [hl], .inr ⟨g, N, _, rfl, hb, hh, Nat.le_refl _, hN, by simp [hl], by rw [Nat.mul_one]; exact List.take_of_length_le (by simp [hl])⟩⟩
theorem wpList_appRow {w : World} {ops : Array Oper} {rest : List Oper} {o : Oper} {a : Act} {Q : Exit → Act → World → Prop} (hgd : o.guard = none) (s x : Operand)
    (ho : o.op = .call { callee := .builtin .append, args := #[s, x], argTypes := #[43, 43] })
    (g m cap : Nat) (l : List Int) (y : Int) (hl : l.length = m) (hrow : ∀ (j : Nat) (hj : j < l.length), w.cell? ⟨g, j, none⟩ = some (.int .u8 l[j])) (hs : a.eval s = .slice (some ⟨w.heap.size, 0, none⟩) 1 1)
    (hx : a.eval x = .slice (some ⟨g, 0, none⟩) m cap) (hb : m ≤ 1000000) (hg : g < w.heap.size)
    (h : ∀ v' w', w'.ownsRow w.heap.size 5 1 v' (m + 1) ((y :: l).map (Value.int .u8)) → Below w.heap.size w w' → wpList Tryd.prog ops Q rest (a.put o.dst v') w') : wpList Tryd.prog ops Q (o :: rest) a (w.alloc (.cells #[.int .u8 y] 5)) := by
  have h1 : Below w.heap.size w (w.alloc (.cells #[.int .u8 y] 5)) := (Below.refl _ _).alloc (Nat.le_refl _) _
  have own : (w.alloc (.cells #[.int .u8 y] 5)).ownsRow w.heap.size 5 1 (.slice (some ⟨w.heap.size, 0, none⟩) 1 1) 1 (([y] : List Int).map (Value.int .u8)) :=
    heap_rowB (Nat.le_refl _) rfl (by unfold maxLen; omega) (heap_newB w _)
  obtain ⟨i0, hi, hz0, hz1, hz2⟩ := info_partsB
  refine wpList_append_own _ hgd s x 43 ho w.heap.size 5 i0 (.int .u8 0) 1 1 Tryd.underlying43 hi hz0 hz1 hz2 rfl (by decide) _ 1 _ hs own ⟨g, 0, none⟩ m cap (l.map (Value.int .u8)) hx (by simp [hl]) ?_ (u8_oneCell _) (by unfold maxLen; omega) (by omega) (by simp) ?_
  · intro j u hu
    obtain ⟨hj, rfl⟩ := List.getElem?_eq_some_iff.1 hu
    have hj2 : j < l.length := by simpa using hj
    rw [Addr.add_lit, Nat.zero_add, h1.cell (p := ⟨g, j, none⟩) hg, hrow j hj2]
    simp
  · intro v' w' h3 h2 _
    refine h v' w' ?_ ?_
    · rw [show ((y :: l).map (Value.int .u8)) = ([y] : List Int).map (Value.int .u8) ++ l.map (Value.int .u8) from rfl, Nat.add_comm m 1]; exact h3
    · exact h1.trans ((Below.refl _ _).grown h2 (by simp) (fun k hk => (own.lt k hk).1))
theorem app_str {w : World} {base m : Nat} {K : ByteArray} {A : Option Addr} {c : Nat} {k : List UInt8} (hK : K.size = m) (hk : k.length = m) (h : w.ownsRow base 5 1 (.slice A (K.size + 1) c) (K.size + 1) ((49 :: List.replicate k.length (48 : Int)).map (Value.int .u8))) :
    (convert 43 9 (.slice A (K.size + 1) c)).run Tryd.prog w = .ok (.string ⟨(49 :: List.replicate k.length 48).toArray⟩) w := by
  have e : (49 :: List.replicate k.length (48 : Int)) = bI (49 :: List.replicate k.length 48) := by unfold bI; rw [List.map_cons, List.map_replicate]; rfl
  have lz : (49 :: List.replicate k.length (48 : UInt8)).length = K.size + 1 := by rw [List.length_cons, List.length_replicate, hk, hK]
  rw [e, ← lz] at h
  have hc := row_str h (by simp)
  rw [lz] at hc; exact hc
theorem bI_get (l : List UInt8) : ∀ (j : Nat) (hj : j < l.length), ((l[j]).toNat : Int) = B l j := fun _ hj => (B_cons hj).symm
/-- What holds of the loop over the nines. -/
structure Nine (w : World) (g : Nat) (k : List UInt8) (b : Bool) (s : ByteArray) (x : Int) (t : Nat) (W : World) : Prop where
  le : t ≤ k.length
  row : RowC W g k.length (fun j => if t ≤ j then 48 else B k j)
  nn : ∀ j : Nat, t ≤ j → j < k.length → B k j = 57
  st : (W.cell? ⟨w.heap.size, 0, none⟩ = some (.bool b) ∧ W.cell? ⟨w.heap.size, 1, none⟩ = some (.string s) ∧ W.cell? ⟨w.heap.size, 2, none⟩ = some (.int .i64 x) ∧ W.cell? ⟨w.heap.size + 1, 0, none⟩ = some (.bool false) ∧ W.cell? ⟨w.heap.size + 1, 1, none⟩ = some (.string ⟨#[]⟩) ∧ W.cell? ⟨w.heap.size + 1, 2, none⟩ = some (.int .i64 0) ∧ W.frozen? ⟨w.heap.size + 1, 0, none⟩ = false ∧ W.frozen? ⟨w.heap.size + 1, 1, none⟩ = false ∧ W.frozen? ⟨w.heap.size + 1, 2, none⟩ = false) ∧ ((w.heap.size < W.heap.size ∧ w.heap.size + 1 < W.heap.size) ∧ Below w.heap.size w W)
set_option maxRecDepth 100000 in
set_option maxHeartbeats 16000000 in
theorem cut_any (b : Bool) (s : ByteArray) (x : Int) (m : Nat) (way : Int) (w : World) (gr : rightV s.data.toList x = true) (hm : m < s.size) (hw : wayV way = true) :
    Calls Tryd.prog 36 #[.agg #[.bool b, .string s, .int .i64 x], .int .i64 (m : Int), .int .i64 way] w (MakePost (rndV b s.data.toList x (m : Int) way) w) := by
  have hwy := of_decide_eq_true hw
  have RL := rightV_len gr
  have SZ := bytes_size s
  have s1 : s.size ≤ 1100 := by omega
  have a1 : IntKind.i64.wrap (x + (s.size : Int)) = x + (s.size : Int) := by rw [IntKind.wrap_i64]; omega
  have a2 : IntKind.i64.wrap (x + (s.size : Int) - (m : Int)) = x + (s.size : Int) - (m : Int) := by rw [IntKind.wrap_i64]; omega
  have m0 : (0 : Int) ≤ (m : Int) := by omega
  have m1 : (m : Int) ≤ (s.size : Int) := by omega
  obtain ⟨K, hK⟩ : ∃ K : ByteArray, s.extract 0 m = K := ⟨_, rfl⟩
  obtain ⟨R, hR⟩ : ∃ K : ByteArray, s.extract m s.size = K := ⟨_, rfl⟩
  obtain ⟨k, hk⟩ : ∃ k, s.data.toList.take m = k := ⟨_, rfl⟩
  obtain ⟨r, hr⟩ : ∃ k, s.data.toList.drop m = k := ⟨_, rfl⟩
  have lK : K.data.toList = k := by rw [← hK, Lib.extract_upto, hk]
  have lR : R.data.toList = r := by rw [← hR, Lib.extract_from, hr]
  have zk : k.length = m := by rw [← hk, List.length_take, ← SZ]; omega
  have zr : r.length = s.size - m := by rw [← hr, List.length_drop, ← SZ]
  have zK : K.size = m := by rw [bytes_size, lK, zk]
  have zR : R.size = r.length := by rw [bytes_size, lR]
  have rn : r ≠ [] := fun e => by rw [e] at zr; simp at zr; omega
  have DK : ∀ j : Nat, j < m → 48 ≤ B k j ∧ B k j ≤ 57 := fun j hj => by
    refine dgB_at ?_ (by rw [zk]; exact hj)
    rw [← hk, List.all_eq_true]
    exact fun y hy => (List.all_eq_true.1 (rightV_digs gr)) y (List.mem_of_mem_take hy)
  have kv : keptV s.data.toList (m : Int) = k := (if_pos m0).trans hk
  have rv : restV s.data.toList (m : Int) = r := (if_pos m0).trans hr
  have lne : ¬ s.data.toList = [] := fun h => by
    have h2 := congrArg List.length h
    simp only [List.length_nil] at h2
    omega
  have lenm : ¬ (s.data.toList.length : Int) ≤ (m : Int) := by rw [← SZ]; omega
  have x0 : -9223372036854775808 ≤ x + (s.size : Int) - (m : Int) ∧ x + (s.size : Int) - (m : Int) < 9223372036854775808 := by omega
  have E : Hid (rndV b s.data.toList x (m : Int) way = makeV b (if upV b k r way = true then oneMoreV k else k) (x + s.size - m)) := by
    have e1 : newV b s.data.toList (m : Int) way = if upV b k r way = true then oneMoreV k else k := by unfold newV; rw [kv, rv]
    have e2 : rndV b s.data.toList x (m : Int) way = makeV b (newV b s.data.toList (m : Int) way) (x + s.data.toList.length - m) := if_neg (fun e => e.elim lenm lne)
    unfold Hid; rw [e2, e1, SZ]
  obtain ⟨v, hv⟩ : ∃ v, rndV b s.data.toList x (m : Int) way = v := ⟨_, rfl⟩
  rw [hv] at E ⊢
  clear hv kv rv hk hr hw gr RL lenm lne
  obtain ⟨X, hX⟩ : ∃ X, x + (s.size : Int) - (m : Int) = X := ⟨_, rfl⟩
  replace a2 := a2.trans hX
  rw [hX] at E x0
  clear hX
  have X0 := Lib.hid x0
  clear x0
  obtain ⟨h, hh⟩ : ∃ h, Lib.compareBytes r [53] = h := ⟨_, rfl⟩
  obtain ⟨od, hod⟩ : ∃ o, oddL k = o := ⟨_, rfl⟩
  obtain ⟨u, hu⟩ : ∃ u, upV b k r way = u := ⟨_, rfl⟩
  have UE : Hid (u = if way = 3 then true else if way = 4 then b else if way = 5 then !b else if way = 2 then false else decide (0 < h) || (decide (h = 0) && (decide (way = 1) || od))) := by
    unfold Hid; rw [← hu, ← hh, ← hod]; rfl
  have HH := Lib.hid hh
  have HO := Lib.hid hod
  have HR := compareBytes_range r [53]
  rw [hh] at HR
  rw [hu] at E
  clear hu hh hod
  obtain ⟨W, hW, ⟨e0, e1, e2⟩, ⟨f0, f1, f2⟩, ff, hbW, sz⟩ := boxDW w b s x
  have KS : Hid (∀ A Z : World, ((A.cell? ⟨w.heap.size, 0, none⟩ = some (.bool b) ∧ A.cell? ⟨w.heap.size, 1, none⟩ = some (.string s) ∧ A.cell? ⟨w.heap.size, 2, none⟩ = some (.int .i64 x) ∧ A.cell? ⟨w.heap.size + 1, 0, none⟩ = some (.bool false) ∧ A.cell? ⟨w.heap.size + 1, 1, none⟩ = some (.string ⟨#[]⟩) ∧ A.cell? ⟨w.heap.size + 1, 2, none⟩ = some (.int .i64 0) ∧ A.frozen? ⟨w.heap.size + 1, 0, none⟩ = false ∧ A.frozen? ⟨w.heap.size + 1, 1, none⟩ = false ∧ A.frozen? ⟨w.heap.size + 1, 2, none⟩ = false) ∧ ((w.heap.size < A.heap.size ∧ w.heap.size + 1 < A.heap.size) ∧ Below w.heap.size w A)) → Below A.heap.size A Z → ((Z.cell? ⟨w.heap.size, 0, none⟩ = some (.bool b) ∧ Z.cell? ⟨w.heap.size, 1, none⟩ = some (.string s) ∧ Z.cell? ⟨w.heap.size, 2, none⟩ = some (.int .i64 x) ∧ Z.cell? ⟨w.heap.size + 1, 0, none⟩ = some (.bool false) ∧ Z.cell? ⟨w.heap.size + 1, 1, none⟩ = some (.string ⟨#[]⟩) ∧ Z.cell? ⟨w.heap.size + 1, 2, none⟩ = some (.int .i64 0) ∧ Z.frozen? ⟨w.heap.size + 1, 0, none⟩ = false ∧ Z.frozen? ⟨w.heap.size + 1, 1, none⟩ = false ∧ Z.frozen? ⟨w.heap.size + 1, 2, none⟩ = false) ∧ ((w.heap.size < Z.heap.size ∧ w.heap.size + 1 < Z.heap.size) ∧ Below w.heap.size w Z))) := by
    rintro A Z ⟨⟨h0, h1, h2, h3, h4, h5, h6, h7, h8⟩, ⟨l0, l1⟩, hb⟩ hx
    have hz := hx.size
    refine ⟨⟨(hx.cell (p := ⟨w.heap.size, 0, none⟩) l0).trans h0, (hx.cell (p := ⟨w.heap.size, 1, none⟩) l0).trans h1, (hx.cell (p := ⟨w.heap.size, 2, none⟩) l0).trans h2, (hx.cell (p := ⟨w.heap.size + 1, 0, none⟩) l1).trans h3, (hx.cell (p := ⟨w.heap.size + 1, 1, none⟩) l1).trans h4, (hx.cell (p := ⟨w.heap.size + 1, 2, none⟩) l1).trans h5, froz_onB h6 hx l1, froz_onB h7 hx l1, froz_onB h8 hx l1⟩, ⟨by omega, by omega⟩, via hb hx⟩
  have ST : Hid ((W.cell? ⟨w.heap.size, 0, none⟩ = some (.bool b) ∧ W.cell? ⟨w.heap.size, 1, none⟩ = some (.string s) ∧ W.cell? ⟨w.heap.size, 2, none⟩ = some (.int .i64 x) ∧ W.cell? ⟨w.heap.size + 1, 0, none⟩ = some (.bool false) ∧ W.cell? ⟨w.heap.size + 1, 1, none⟩ = some (.string ⟨#[]⟩) ∧ W.cell? ⟨w.heap.size + 1, 2, none⟩ = some (.int .i64 0) ∧ W.frozen? ⟨w.heap.size + 1, 0, none⟩ = false ∧ W.frozen? ⟨w.heap.size + 1, 1, none⟩ = false ∧ W.frozen? ⟨w.heap.size + 1, 2, none⟩ = false) ∧ ((w.heap.size < W.heap.size ∧ w.heap.size + 1 < W.heap.size) ∧ Below w.heap.size w W)) := ⟨⟨e0, e1, e2, f0, f1, f2, ff 0, ff 1, ff 2⟩, ⟨by omega, by omega⟩, hbW⟩
  clear hbW sz e0 e1 e2 f0 f1 f2 ff
  obtain ⟨g, hg⟩ : ∃ g, W.heap.size = g := ⟨_, rfl⟩
  have gB : w.heap.size + 1 < g := by rw [← hg]; exact ST.out.2.1.2
  obtain ⟨W2, hW2⟩ : ∃ X, Lib.bytesWorld W 5 K = X := ⟨_, rfl⟩
  obtain ⟨cap, hcap⟩ : ∃ c, grownCap W K.size 0 5 = c := ⟨_, rfl⟩
  have hcv : (convert 9 43 (.string K)).run Tryd.prog W = .ok (.slice (some ⟨g, 0, none⟩) K.size cap) W2 := by
    rw [Lib.run_convert_string_bytes W 9 43 5 K Tryd.underlying9 Tryd.underlying43 Tryd.underlying5, hg, hW2, hcap]
  have RC := RowC.of (W := W) lK
  have bW := below_bytes W K
  rw [hW2, hg, zK] at RC
  rw [hW2] at bW
  have ST2 := Lib.hid (KS.out _ _ ST.out bW)
  have G2 : Hid (g < W2.heap.size) := by unfold Hid; rw [← hW2, Lib.bytesWorld_size, hg]; omega
  rw [← zk] at RC
  replace RC := Lib.hid RC
  clear bW hW2 hcap
  have BR0 := Lib.hid (fun hk => B_get (s := R) (k := 0) lR hk)
  have EM : R.toList.isEmpty = false := by rw [bytes_empty, lR]; exact List.isEmpty_eq_false_iff.2 rn
  have EQ : Hid (R.toList = r) := by unfold Hid; rw [Lib.toList_data, lR]
  have R0 : 0 < R.size := by have := List.length_pos_iff.2 rn; omega
  have HL := Lib.hid (And.intro lK (And.intro lR (And.intro zk (And.intro zr (And.intro zK zR)))))
  have RN := Lib.hid rn
  have KK : (K.size : Int) = (m : Int) := by omega
  have dK := Lib.hid DK
  clear lK lR zk zr zK zR rn SZ hg DK hm
  obtain ⟨⟨z0, z1, z2, z3, z4, z5, z6, z7, z8⟩, zl, zB⟩ := ST.out
  clear zl zB
  obtain ⟨⟨y0, y1, y2, y3, y4, y5, y6, y7, y8⟩, yl, yB⟩ := ST2.out
  clear yl yB
  go_enter Tryd.func36, Tryd.ntmps36
  go_upto_if 33 with fail
  go_cut [11] (fun hv wx => hv = .int .i64 h ∧ W2 = wx)
  case first =>
    have b0 := BR0.out R0
    have R1 : (0 : Int) < (R.size : Int) := by omega
    obtain ⟨z, hz⟩ : ∃ z, B r 0 = z := ⟨_, rfl⟩
    rw [hz] at b0
    by_cases h1 : 53 < z
    · obtain rfl : h = 1 := by rw [← HH.out]; exact half_gt (by rw [hz]; exact h1) RN.out
      have e5 : (R.toList == [53]) = false := by rw [EQ.out, beq_eq_false_iff_ne]; intro e; rw [e] at hz; have hz2 : (53 : Int) = z := hz; omega
      clear hz EQ
      go_wp2
      go_meet
      exact ⟨rfl, rfl⟩
    · by_cases h2 : z < 53
      · obtain rfl : h = -1 := by rw [← HH.out]; exact half_lt (by rw [hz]; exact h2) RN.out
        have e5 : (R.toList == [53]) = false := by rw [EQ.out, beq_eq_false_iff_ne]; intro e; rw [e] at hz; have hz2 : (53 : Int) = z := hz; omega
        have h3 : (z == 53) = false := by rw [beq_eq_false_iff_ne]; omega
        clear hz EQ
        go_wp2
        go_meet
        exact ⟨rfl, rfl⟩
      · obtain rfl : z = 53 := by omega
        have he := half_eq hz RN.out
        rw [HH.out] at he
        by_cases h3 : 1 < (R.size : Int)
        · obtain rfl : h = 1 := by rw [he, if_pos (by have := HL.out.2.2.2.2.2; omega)]
          have e5 : (R.toList == [53]) = false := by rw [EQ.out, beq_eq_false_iff_ne]; intro e; have := HL.out.2.2.2.2.2; rw [e] at this; simp at this; omega
          clear hz EQ he
          go_wp2
          go_meet
          exact ⟨rfl, rfl⟩
        · obtain rfl : h = 0 := by rw [he, if_neg (by have := HL.out.2.2.2.2.2; omega)]
          have e5 : (R.toList == [53]) = true := by
            rw [EQ.out, beq_iff_eq]
            have := HL.out.2.2.2.2.2
            have rn := RN.out
            cases r with
            | nil => exact absurd rfl rn
            | cons a l =>
              cases l with
              | nil =>
                have e : ((a.toNat : Nat) : Int) = 53 := hz
                have : a.toNat = (53 : UInt8).toNat := by show a.toNat = 53; omega
                rw [UInt8.toNat_inj.1 this]
              | cons c q => simp at this; omega
          clear hz EQ he
          go_wp2
          go_meet
          exact ⟨rfl, rfl⟩
  case rest =>
  obtain ⟨rfl, rfl⟩ := hcut
  go_upto_region 11 with fail
  go_cut [12] (fun ov wx => ov = .bool od ∧ W2 = wx)
  case first =>
    by_cases h1 : m = 0
    · obtain rfl : od = false := by rw [← HO.out]; unfold oddL; rw [List.eq_nil_of_length_eq_zero (HL.out.2.2.1.trans h1)]; rfl
      have h1i : ¬ (0 : Int) < (m : Int) := by omega
      have h1d : decide ((0 : Int) < (m : Int)) = false := decide_eq_false h1i
      have h1n : decide (0 < m) = false := decide_eq_false (by omega)
      clear h1
      go_wp2
      go_meet
      exact ⟨rfl, rfl⟩
    · obtain ⟨j, hj⟩ : ∃ j, m = j + 1 := ⟨m - 1, by omega⟩
      have h1i : (0 : Int) < (m : Int) := by omega
      have h1n : 0 < m := by omega
      have h1d : decide (0 < m) = true := decide_eq_true h1n
      have wj : IntKind.i64.wrap ((m : Int) - 1) = (j : Int) := by rw [IntKind.wrap_i64]; omega
      have j0 : (0 : Int) ≤ (j : Int) := by omega
      have j1 : (j : Int) < (m : Int) := by omega
      have jk : j < K.size := by omega
      have cj := RC.out.c j (by have := HL.out.2.2.1; omega)
      have br := B_range k j
      have OO : od = decide (B k j % 2 = 1) := by
        rw [← HO.out]; unfold oddL
        rw [decide_eq_true (show k ≠ [] from fun e => by have := HL.out.2.2.1; rw [e] at this; simp at this; omega), show k.length - 1 = j by have := HL.out.2.2.1; omega, Bool.true_and]
      obtain ⟨z, hz⟩ : ∃ z, B k j = z := ⟨_, rfl⟩
      rw [hz] at cj br OO
      have t1 : z.tmod 2 = z % 2 := Int.tmod_eq_emod_of_nonneg br.1
      have HJ := Lib.hid hj
      clear hz hj h1
      by_cases h2 : z % 2 = 1
      · obtain rfl : od = true := by rw [OO]; exact decide_eq_true h2
        clear OO
        go_wp2
        go_meet
        exact ⟨rfl, rfl⟩
      · obtain rfl : od = false := by rw [OO]; exact decide_eq_false h2
        have h2b : (z % 2 == 1) = false := by rw [beq_eq_false_iff_ne]; exact h2
        clear OO
        go_wp2
        go_meet
        exact ⟨rfl, rfl⟩
  case rest =>
  obtain ⟨rfl, rfl⟩ := hcut
  go_upto_block 0 with fail
  go_cut [13] (fun uv wx => uv = .bool u ∧ W2 = wx)
  case first =>
    have hs : way = 0 ∨ way = 1 ∨ way = 2 ∨ way = 3 ∨ way = 4 ∨ way = 5 := by omega
    clear hwy
    rcases hs with rfl | rfl | rfl | rfl | rfl | rfl
    · rcases HR with rfl | rfl | rfl
      all_goals
        cases od
        all_goals
          first
            | (obtain rfl : u = true := UE.out
               go_wp2
               go_meet
               exact ⟨rfl, rfl⟩)
            | (obtain rfl : u = false := UE.out
               go_wp2
               go_meet
               exact ⟨rfl, rfl⟩)
    · rcases HR with rfl | rfl | rfl
      all_goals
        first
          | (obtain rfl : u = true := UE.out
             go_wp2
             go_meet
             exact ⟨rfl, rfl⟩)
          | (obtain rfl : u = false := UE.out
             go_wp2
             go_meet
             exact ⟨rfl, rfl⟩)
    · obtain rfl : u = false := UE.out
      go_wp2
      go_meet
      exact ⟨rfl, rfl⟩
    · obtain rfl : u = true := UE.out
      go_wp2
      go_meet
      exact ⟨rfl, rfl⟩
    · obtain rfl : u = b := UE.out
      go_wp2
      go_meet
      exact ⟨rfl, rfl⟩
    · obtain rfl : u = !b := UE.out
      go_wp2
      go_meet
      exact ⟨rfl, rfl⟩
  case rest =>
  obtain ⟨rfl, rfl⟩ := hcut
  clear UE HR HH HO hwy
  have MK := Lib.hid (fun (Q : ByteArray) (hq : Q.size ≤ 1000000) W => rmake_any b Q X W hq X0.out.1 X0.out.2)
  have zk := HL.out.2.2.1
  have mk : m ≤ 1100 := by omega
  cases u with
  | false =>
    replace E := Lib.hid (E.out.trans (congrArg (fun z => makeV b z X) (if_neg (by simp))))
    have hc2 := row_conv (c := cap) RC.out (fun j hj => (bI_get k j hj).symm)
    have ks : k.length = K.size := by have := HL.out.2.2.2.2.1; omega
    rw [ks] at hc2
    have QZ : (⟨k.toArray⟩ : ByteArray).size ≤ 1000000 := by rw [bytes_size]; show k.length ≤ _; omega
    clear ks
    obtain ⟨cb, cq, cy, er, hmp⟩ := makeV_parts b (k) X
    have A : Hid (v = (.agg #[.bool cb, .string cq, .int .i64 cy], er)) := E.out.trans hmp
    have MQ := Lib.hid (fun W => MK.out ⟨k.toArray⟩ QZ W)
    rw [show (⟨k.toArray⟩ : ByteArray).data.toList = k from rfl, hmp] at MQ
    clear hmp E MK
    go_wp2_with fail
    refine (MQ.out _).mono ?_
    rintro e w9 ⟨rfl, hb9⟩
    have ST9 := Lib.hid (KS.out _ _ ST2.out hb9)
    clear hb9
    clear hc2 y0 y1 y2 y3 y4 y5 y6 y7 y8
    obtain ⟨⟨q0, q1, q2, q3, q4, q5, q6, q7, q8⟩, ql, qB⟩ := ST9.out
    clear ql qB
    go_wp2
    refine bodyPost_ret (v := .tuple #[.agg #[.bool cb, .string cq, .int .i64 cy], .int .i64 er]) (by simp [results, Tryd.results36, go_sem, *]) rfl ⟨by rw [A.out] <;> rfl, ?_⟩
    have hB := ST9.out.2.2
    (repeat' first | exact Below.refl _ _ | assumption | refine Below.drew ?_ | refine Below.alloc ?_ ?_ _ | refine Below.setCell ?_ ?_ _ | refine below_drewN ?_ _ | (simp; done) | omega | (simp; omega))
  | true =>
    replace E := Lib.hid (E.out.trans (congrArg (fun z => makeV b z X) (if_pos rfl)))
    have e1 : R.toList.isEmpty = false := EM
    have N0 : Hid (Nine w g k b s x k.length W2) := ⟨Nat.le_refl _, ⟨fun j hj => by rw [RC.out.c j hj, if_neg (by omega)], RC.out.f⟩, fun j h1 h2 => absurd h2 (by omega), ST2.out⟩
    have w1 : IntKind.i64.wrap ((m : Int) - 1) = (m : Int) - 1 := by rw [IntKind.wrap_i64]; omega
    go_upto_block 1 with fail
    go_cut [14] (fun iv wx => ∃ t : Nat, iv = .int .i64 ((t : Int) - 1) ∧ Hid (Nine w g k b s x t wx) ∧ Hid (0 < t → B k (t - 1) ≠ 57) ∧ Hid (g < wx.heap.size))
    case first =>
      go_wp2_with fail
      go_loopw [14] (fun iv wx => ∃ t : Nat, iv = .int .i64 ((t : Int) - 1) ∧ t ≤ m ∧ Hid (Nine w g k b s x t wx) ∧ Hid (g < wx.heap.size)) (fun iv _ => (intOf iv + 1).toNat)
      case atStart => exact ⟨m, rfl, Nat.le_refl _, by rw [← zk]; exact N0, G2⟩
      case round =>
        obtain ⟨t, rfl, tm, HN, GS⟩ := hrel
        clear N0 hcv y0 y1 y2 y3 y4 y5 y6 y7 y8 z0 z1 z2 z3 z4 z5 z6 z7 z8
        by_cases h1 : 0 < t
        · obtain ⟨j, hj⟩ : ∃ j, t = j + 1 := ⟨t - 1, by omega⟩
          have tj : (t : Int) - 1 = (j : Int) := by omega
          rw [tj]
          have j0 : (0 : Int) ≤ (j : Int) := by omega
          have jk : j < k.length := by omega
          have jK : (j : Int) < (K.size : Int) := by omega
          have jn : j < K.size := by omega
          have cj := HN.out.row.c j jk
          rw [if_neg (by omega)] at cj
          have fj := HN.out.row.f j jk
          have w2 : IntKind.i64.wrap ((j : Int) - 1) = (j : Int) - 1 := by rw [IntKind.wrap_i64]; omega
          obtain ⟨z, hz⟩ : ∃ z, B k j = z := ⟨_, rfl⟩
          rw [hz] at cj
          have HJ := Lib.hid hj
          have gb : w.heap.size + 1 < g := gB
          by_cases h2 : z = 57
          · subst h2
            have N2 : Hid (Nine w g k b s x j (wr.setCell ⟨g, j, none⟩ (.int .u8 48))) := by
              have hbs : Below g wr (wr.setCell ⟨g, j, none⟩ (.int .u8 48)) := (Below.refl _ _).setCell (p := ⟨g, j, none⟩) (Nat.le_refl _) _
              refine ⟨by omega, ?_, fun q h3 h4 => ?_, ?_⟩
              · have rs := HN.out.row.set j jk 48
                refine ⟨fun q hq => (rs.c q hq).trans ?_, rs.f⟩
                congr 2
                by_cases e : q = j
                · rw [if_pos e, if_pos (by omega)]
                · rw [if_neg e]
                  by_cases e2 : t ≤ q
                  · rw [if_pos e2, if_pos (by omega)]
                  · rw [if_neg e2, if_neg (by omega)]
              · by_cases e : q = j
                · subst e; exact hz
                · exact HN.out.nn q (by omega) h4
              · have st := HN.out.st
                obtain ⟨⟨a0, a1, a2, a3, a4, a5, a6, a7, a8⟩, ⟨l0, l1⟩, lb⟩ := st
                exact ⟨⟨(hbs.cell (p := ⟨w.heap.size, 0, none⟩) (by show w.heap.size < g; omega)).trans a0, (hbs.cell (p := ⟨w.heap.size, 1, none⟩) (by show w.heap.size < g; omega)).trans a1, (hbs.cell (p := ⟨w.heap.size, 2, none⟩) (by show w.heap.size < g; omega)).trans a2, (hbs.cell (p := ⟨w.heap.size + 1, 0, none⟩) gb).trans a3, (hbs.cell (p := ⟨w.heap.size + 1, 1, none⟩) gb).trans a4, (hbs.cell (p := ⟨w.heap.size + 1, 2, none⟩) gb).trans a5, froz_onB a6 hbs gb, froz_onB a7 hbs gb, froz_onB a8 hbs gb⟩, ⟨by have := hbs.size; omega, by have := hbs.size; omega⟩, lb.setCell (p := ⟨g, j, none⟩) (by show w.heap.size ≤ g; omega) _⟩
            have GS2 : Hid (g < (wr.setCell ⟨g, j, none⟩ (.int .u8 48)).heap.size) := by unfold Hid; have := GS.out; simpa [World.setCell] using this
            have jm : j ≤ m := by omega
            have lt : j < t := by omega
            clear hz hj HJ h1 tj
            go_wp2
            go_roundw
            case rel => exact ⟨j, by go_num, jm, N2, GS2⟩
            case measure => first | (simp [intOf]; done) | (simp [intOf]; omega)
          · have bz : (z == 57) = false := beq_eq_false_iff_ne.2 h2
            have NE : Hid (0 < t → B k (t - 1) ≠ 57) := fun _ => by rw [hj, Nat.add_sub_cancel, hz]; exact h2
            clear hz hj
            go_wp2
            go_meet
            exact ⟨t, by rw [tj], HN, NE, GS⟩
        · obtain rfl : t = 0 := by omega
          have i0 : ¬ (0 : Int) ≤ ((0 : Nat) : Int) - 1 := by omega
          go_wp2
          go_meet
          exact ⟨0, by first | rfl | go_num, HN, fun e => absurd e (by omega), GS⟩
    case rest =>
      obtain ⟨t, rfl, HN, NE, GS⟩ := hcut
      have ME := more_at HN.out.le HN.out.nn NE.out
      clear N0 hcv y0 y1 y2 y3 y4 y5 y6 y7 y8 z0 z1 z2 z3 z4 z5 z6 z7 z8
      by_cases h1 : t = 0
      · subst h1
        rw [if_pos rfl] at ME
        have i0 : ((0 : Nat) : Int) - 1 < 0 := by omega
        have OL : Hid ((List.replicate k.length (48 : Int)).length = K.size) := by unfold Hid; rw [List.length_replicate]; have := HL.out.2.2.2.2.1; omega
        have OC : Hid (∀ (j : Nat) (hj : j < (List.replicate k.length (48 : Int)).length), wc.cell? ⟨g, j, none⟩ = some (.int .u8 (List.replicate k.length (48 : Int))[j])) := fun j hj => by
          rw [List.length_replicate] at hj
          rw [HN.out.row.c j hj, if_pos (Nat.zero_le j), List.getElem_replicate]
        have kz : K.size ≤ 1000000 := by have := HL.out.2.2.2.2.1; omega
        replace E := Lib.hid (E.out.trans (congrArg (fun z => makeV b z X) ME))
        obtain ⟨Qs, hQs⟩ : ∃ Q : ByteArray, (⟨(49 :: List.replicate k.length (48 : UInt8)).toArray⟩ : ByteArray) = Q := ⟨_, rfl⟩
        have dQ : Qs.data.toList = 49 :: List.replicate k.length (48 : UInt8) := by rw [← hQs]
        have QZ : Qs.size ≤ 1000000 := by rw [bytes_size, dQ, List.length_cons, List.length_replicate]; omega
        rw [← dQ] at E
        have AQ : Hid (∀ (W : World) (A : Option Addr) (c : Nat), W.ownsRow wc.heap.size 5 1 (.slice A (K.size + 1) c) (K.size + 1) ((49 :: List.replicate k.length (48 : Int)).map (Value.int .u8)) → (convert 43 9 (.slice A (K.size + 1) c)).run Tryd.prog W = .ok (.string Qs) W) := fun W A c h => by
          have h2 := app_str HL.out.2.2.2.2.1 HL.out.2.2.1 h
          rw [hQs] at h2; exact h2
        clear ME hQs dQ
        have STc := Lib.hid HN.out.st
        go_wp2_with (at_builtin; refine wpList_appRow rfl _ _ rfl g K.size cap (List.replicate k.length 48) 49 OL.out OC.out rfl rfl kz GS.out ?_; intro v' w5 hown5 hb5; obtain ⟨A5, k5, rfl⟩ := own_slice hown5; have O5 := Lib.hid hown5; have ST5 := Lib.hid (KS.out _ _ STc.out hb5); clear hown5 hb5; obtain ⟨⟨y0, y1, y2, y3, y4, y5, y6, y7, y8⟩, yl, yB⟩ := ST5.out; clear yl yB; have hc7 := AQ.out _ _ _ O5.out)
        obtain ⟨cb, cq, cy, er, hmp⟩ := makeV_parts b (Qs.data.toList) X
        have A : Hid (v = (.agg #[.bool cb, .string cq, .int .i64 cy], er)) := E.out.trans hmp
        have MQ := Lib.hid (fun W => MK.out Qs QZ W)
        rw [show (Qs : ByteArray).data.toList = Qs.data.toList from rfl, hmp] at MQ
        clear hmp E MK
        skip
        refine (MQ.out _).mono ?_
        rintro e w9 ⟨rfl, hb9⟩
        have ST9 := Lib.hid (KS.out _ _ ST5.out hb9)
        clear hb9
        clear hc7 y0 y1 y2 y3 y4 y5 y6 y7 y8
        obtain ⟨⟨q0, q1, q2, q3, q4, q5, q6, q7, q8⟩, ql, qB⟩ := ST9.out
        clear ql qB
        go_wp2
        refine bodyPost_ret (v := .tuple #[.agg #[.bool cb, .string cq, .int .i64 cy], .int .i64 er]) (by simp [results, Tryd.results36, go_sem, *]) rfl ⟨by rw [A.out] <;> rfl, ?_⟩
        have hB := ST9.out.2.2
        (repeat' first | exact Below.refl _ _ | assumption | refine Below.drew ?_ | refine Below.alloc ?_ ?_ _ | refine Below.setCell ?_ ?_ _ | refine below_drewN ?_ _ | (simp; done) | omega | (simp; omega))
      · obtain ⟨j, hj⟩ : ∃ j, t = j + 1 := ⟨t - 1, by omega⟩
        rw [if_neg h1] at ME
        have tj : (t : Int) - 1 = (j : Int) := by omega
        have tn : t - 1 = j := by omega
        rw [tj]
        have tk := HN.out.le
        have j0 : (0 : Int) ≤ (j : Int) := by omega
        have jn0 : ¬ (j : Int) < 0 := by omega
        have jk : j < k.length := by omega
        have jK : (j : Int) < (K.size : Int) := by omega
        have jn : j < K.size := by omega
        have cj := HN.out.row.c j jk
        rw [if_neg (by omega)] at cj
        have fj := HN.out.row.f j jk
        have dj := dK.out j (by omega)
        obtain ⟨Fl, hF⟩ : ∃ Fl, k.take (t - 1) ++ [UInt8.ofNat (B k (t - 1) + 1).toNat] ++ List.replicate (k.length - t) 48 = Fl := ⟨_, rfl⟩
        have lF : Fl.length = k.length := by rw [← hF, List.length_append, List.length_append, List.length_take, List.length_singleton, List.length_replicate]; omega
        have cF : ∀ (q : Nat) (hq : q < Fl.length), (if q = j then B k j + 1 else if t ≤ q then 48 else B k q) = ((Fl[q]).toNat : Int) := by
          intro q hq
          subst hF
          rw [row_more (by omega) tk (by omega) (by rw [tn]; omega) hq, tn]
        rw [hF] at ME
        obtain ⟨z, hz⟩ : ∃ z, B k j = z := ⟨_, rfl⟩
        rw [hz] at cj dj cF
        have w3 : IntKind.u8.wrap (z + 1) = z + 1 := by rw [IntKind.wrap_u8]; omega
        have hbs : Below g wc (wc.setCell ⟨g, j, none⟩ (.int .u8 (z + 1))) := (Below.refl _ _).setCell (p := ⟨g, j, none⟩) (Nat.le_refl _) _
        have rs := HN.out.row.set j jk (z + 1)
        obtain ⟨W4, hW4⟩ : ∃ X, wc.setCell ⟨g, j, none⟩ (.int .u8 (z + 1)) = X := ⟨_, rfl⟩
        have ST4 : Hid ((W4.cell? ⟨w.heap.size, 0, none⟩ = some (.bool b) ∧ W4.cell? ⟨w.heap.size, 1, none⟩ = some (.string s) ∧ W4.cell? ⟨w.heap.size, 2, none⟩ = some (.int .i64 x) ∧ W4.cell? ⟨w.heap.size + 1, 0, none⟩ = some (.bool false) ∧ W4.cell? ⟨w.heap.size + 1, 1, none⟩ = some (.string ⟨#[]⟩) ∧ W4.cell? ⟨w.heap.size + 1, 2, none⟩ = some (.int .i64 0) ∧ W4.frozen? ⟨w.heap.size + 1, 0, none⟩ = false ∧ W4.frozen? ⟨w.heap.size + 1, 1, none⟩ = false ∧ W4.frozen? ⟨w.heap.size + 1, 2, none⟩ = false) ∧ ((w.heap.size < W4.heap.size ∧ w.heap.size + 1 < W4.heap.size) ∧ Below w.heap.size w W4)) := by
          have st := HN.out.st
          have gb : w.heap.size + 1 < g := gB
          unfold Hid; rw [← hW4]
          obtain ⟨⟨a0, a1, a2, a3, a4, a5, a6, a7, a8⟩, ⟨l0, l1⟩, lb⟩ := st
          exact ⟨⟨(hbs.cell (p := ⟨w.heap.size, 0, none⟩) (by show w.heap.size < g; omega)).trans a0, (hbs.cell (p := ⟨w.heap.size, 1, none⟩) (by show w.heap.size < g; omega)).trans a1, (hbs.cell (p := ⟨w.heap.size, 2, none⟩) (by show w.heap.size < g; omega)).trans a2, (hbs.cell (p := ⟨w.heap.size + 1, 0, none⟩) gb).trans a3, (hbs.cell (p := ⟨w.heap.size + 1, 1, none⟩) gb).trans a4, (hbs.cell (p := ⟨w.heap.size + 1, 2, none⟩) gb).trans a5, froz_onB a6 hbs gb, froz_onB a7 hbs gb, froz_onB a8 hbs gb⟩, ⟨by have := hbs.size; omega, by have := hbs.size; omega⟩, lb.setCell (p := ⟨g, j, none⟩) (by show w.heap.size ≤ g; omega) _⟩
        rw [hW4] at rs
        rw [← lF] at rs
        have hc7 := row_conv (c := cap) rs (fun q hq => cF q hq)
        have lK2 : Fl.length = K.size := by have := HL.out.2.2.2.2.1; omega
        rw [lK2] at hc7
        have QZ : (⟨Fl.toArray⟩ : ByteArray).size ≤ 1000000 := by rw [bytes_size]; show Fl.length ≤ _; omega
        replace E := Lib.hid (E.out.trans (congrArg (fun z => makeV b z X) ME))
        obtain ⟨⟨y0, y1, y2, y3, y4, y5, y6, y7, y8⟩, yl, yB⟩ := ST4.out
        clear yl yB hbs rs lK2 lF cF hF ME hz hj tj tn h1 dj
        obtain ⟨cb, cq, cy, er, hmp⟩ := makeV_parts b (Fl) X
        have A : Hid (v = (.agg #[.bool cb, .string cq, .int .i64 cy], er)) := E.out.trans hmp
        have MQ := Lib.hid (fun W => MK.out ⟨Fl.toArray⟩ QZ W)
        rw [show (⟨Fl.toArray⟩ : ByteArray).data.toList = Fl from rfl, hmp] at MQ
        clear hmp E MK
        go_wp2_with fail
        refine (MQ.out _).mono ?_
        rintro e w9 ⟨rfl, hb9⟩
        have ST9 := Lib.hid (KS.out _ _ ST4.out hb9)
        clear hb9
        clear hc7 y0 y1 y2 y3 y4 y5 y6 y7 y8
        obtain ⟨⟨q0, q1, q2, q3, q4, q5, q6, q7, q8⟩, ql, qB⟩ := ST9.out
        clear ql qB
        go_wp2
        refine bodyPost_ret (v := .tuple #[.agg #[.bool cb, .string cq, .int .i64 cy], .int .i64 er]) (by simp [results, Tryd.results36, go_sem, *]) rfl ⟨by rw [A.out] <;> rfl, ?_⟩
        have hB := ST9.out.2.2
        (repeat' first | exact Below.refl _ _ | assumption | refine Below.drew ?_ | refine Below.alloc ?_ ?_ _ | refine Below.setCell ?_ ?_ _ | refine below_drewN ?_ _ | (simp; done) | omega | (simp; omega))
end Go.Proofs.YtgjhpcmpgkfnkaaDoor
