/-
  The document's decimals: Parse: walked.
-/
import Derived.Test.YtgjhpcmpgkfnkaaDoorA32b
import Derived.Deep.CutBlock
import Derived.Deep.DeepCutAuto
namespace Go.Proofs.YtgjhpcmpgkfnkaaDoor
open Go.RowKit Go.Shelf

/-- The cell of the result, and the digits read so far in a row of the call's own. -/
structure RP (w W : World) (v : Value) (ds : List UInt8) : Prop where
  res : BoxD W w.heap.size false ⟨#[]⟩ 0
  fr : ∀ j : Nat, W.frozen? ⟨w.heap.size, j, none⟩ = false
  hb : Below w.heap.size w W
  own : W.ownsRow (w.heap.size + 1) 5 1 v ds.length ((bI ds).map (Value.int .u8))
  sz : w.heap.size + 1 ≤ W.heap.size
theorem RP.start (w : World) : RP w (w.alloc (.cells #[.bool false, .string ⟨#[]⟩, .int .i64 0] 23)) (.slice none 0 0) [] :=
  ⟨BoxD.new w false ⟨#[]⟩ 0, fun j => froz_newB w _ _ j, (Below.refl _ _).alloc (Nat.le_refl _) _, ⟨rfl, .inl ⟨rfl, rfl⟩⟩, by simp⟩
theorem RP.app {w W W' : World} {v v' : Value} {ds : List UInt8} {z : Int} (h : RP w W v ds) (z0 : 0 ≤ z) (z1 : z < 256) (hb : Below (w.heap.size + 1) W W') (own : W'.ownsRow (w.heap.size + 1) 5 1 v' (ds.length + 1) ((bI ds ++ [z]).map (Value.int .u8))) : RP w W' v' (ds ++ [UInt8.ofNat z.toNat]) :=
  ⟨h.res.on hb (Nat.lt_succ_self _), fun j => froz_onB (h.fr j) hb (Nat.lt_succ_self _), h.hb.trans (hb.mono (Nat.le_succ _)), by rw [bI_app ds z z0 z1] at own; simpa using own, Nat.le_trans h.sz hb.size⟩
theorem take_snoc (l : List UInt8) (i k : Nat) (h : i + k < l.length) : (l.drop i).take k ++ [UInt8.ofNat (B l (i + k)).toNat] = (l.drop i).take (k + 1) := by
  have hk : k < (l.drop i).length := by rw [List.length_drop]; omega
  rw [List.take_succ_eq_append_getElem hk, B_cons h]
  congr 2
  rw [List.getElem_drop]; simp
set_option maxRecDepth 100000 in
set_option maxHeartbeats 16000000 in
theorem rparse_any (s : ByteArray) (w : World) (hs : s.size ≤ 50000) :
    Calls Tryd.prog 23 #[.string s] w (MakePost (docV s.data.toList) w) := by
  have AD := Lib.hid (fun z z0 z1 W => rdigit_any z W z0 z1)
  have SZ := Lib.hid (bytes_size s)
  have P0 := Lib.hid (RP.start w)
  obtain ⟨l, hl⟩ : ∃ l, s.data.toList = l := ⟨_, rfl⟩
  have BG := Lib.hid (fun k hk => B_get (s := s) (k := k) hl hk)
  have BR := Lib.hid (fun k => B_range l k)
  rw [hl] at SZ ⊢
  clear hl
  have E : Hid (docV l = if l ≠ [] ∧ B l 0 = 45 then docM true (l.drop 1) else docM false l) := rfl
  obtain ⟨v, hv⟩ : ∃ v, docV l = v := ⟨_, rfl⟩
  rw [hv] at E ⊢
  clear hv
  have EX : ∃ (i0 : Nat) (ng : Bool), Hid (v = docM ng (l.drop i0)) ∧ Hid (ng = (decide (0 < s.size) && decide (B l 0 = 45))) ∧ Hid (i0 = if ng = true then 1 else 0) := by
    by_cases h : l ≠ [] ∧ B l 0 = 45
    · refine ⟨1, true, E.out.trans (if_pos h), ?_, rfl⟩
      have : 0 < s.size := by rw [SZ.out]; exact List.length_pos_iff.2 h.1
      unfold Hid; rw [decide_eq_true this, decide_eq_true h.2]; rfl
    · refine ⟨0, false, E.out.trans (if_neg h), ?_, rfl⟩
      unfold Hid
      by_cases h0 : 0 < s.size
      · have hn : ¬ B l 0 = 45 := fun e => h ⟨fun z => by have := SZ.out; rw [z] at this; simp at this; rw [this] at h0; simp at h0, e⟩
        rw [decide_eq_false hn, Bool.and_false]
      · rw [decide_eq_false h0]; rfl
  obtain ⟨i0, ng, EV, EN, EI⟩ := EX
  clear E
  go_enter Tryd.func23, Tryd.ntmps23
  go_upto_region 2 with fail
  generalize hW0 : w.alloc (.cells #[.bool false, .string ⟨#[]⟩, .int .i64 0] 23) = W0
  rw [hW0] at P0
  clear hW0
  go_cut [5] (fun nv wx => nv = .bool ng ∧ W0 = wx)
  case first =>
    by_cases h0 : 0 < s.size
    · have h0i : (0 : Int) < (s.size : Int) := by omega
      have h0d : decide (0 < s.size) = true := decide_eq_true h0
      have b0 := BG.out 0 h0
      obtain ⟨z, hz⟩ : ∃ z, B l 0 = z := ⟨_, rfl⟩
      rw [hz] at b0
      have en := EN.out
      rw [h0d, hz, Bool.true_and] at en
      by_cases h1 : z = 45
      · obtain rfl : ng = true := by rw [en]; exact decide_eq_true h1
        have bz : (z == 45) = true := beq_iff_eq.2 h1
        clear hz en h1
        go_wp2
        go_meet
        exact ⟨rfl, rfl⟩
      · obtain rfl : ng = false := by rw [en]; exact decide_eq_false h1
        have bz : (z == 45) = false := beq_eq_false_iff_ne.2 h1
        clear hz en h1
        go_wp2
        go_meet
        exact ⟨rfl, rfl⟩
    · have h0i : ¬ (0 : Int) < (s.size : Int) := by omega
      have h0d : decide (0 < s.size) = false := decide_eq_false h0
      obtain rfl : ng = false := by rw [EN.out, h0d]; rfl
      go_wp2
      go_meet
      exact ⟨rfl, rfl⟩
  case rest =>
  obtain ⟨rfl, rfl⟩ := hcut
  have I0 : i0 ≤ s.size := by
    rw [EI.out]
    cases ng with
    | false => simp
    | true =>
      have e := EN.out
      by_cases h0 : 0 < s.size
      · rw [if_pos rfl]; exact h0
      · rw [decide_eq_false h0] at e; simp at e
  go_upto_if 20 with fail
  go_cut [4] (fun iv wx => iv = .int .i64 (i0 : Int) ∧ W0 = wx)
  case first =>
    cases ng with
    | true =>
      obtain rfl : i0 = 1 := EI.out
      go_wp2
      go_meet
      exact ⟨rfl, rfl⟩
    | false =>
      obtain rfl : i0 = 0 := EI.out
      go_wp2
      go_meet
      exact ⟨rfl, rfl⟩
  case rest =>
  obtain ⟨rfl, rfl⟩ := hcut
  clear EI EN
  obtain ⟨l1, hl1⟩ : ∃ l1, l.drop i0 = l1 := ⟨_, rfl⟩
  obtain ⟨a, ha⟩ : ∃ a, run isDg l1 = a := ⟨_, rfl⟩
  have A1 : Hid (a ≤ l1.length) := by unfold Hid; rw [← ha]; exact run_le _ _
  have L1 : Hid (l1.length = s.size - i0) := by unfold Hid; rw [← hl1, List.length_drop, ← SZ.out]
  have B1 : Hid (∀ k, B l1 k = B l (i0 + k)) := fun k => by rw [← hl1]; exact B_drop l i0 k
  have HA := Lib.hid ha
  have HL := Lib.hid hl1
  clear hl1 ha
  go_upto_block 0 with fail
  go_cut [4, 6] (fun iv sv wx => iv = .int .i64 ((i0 + a : Nat) : Int) ∧ Hid (RP w wx sv (l1.take a)))
  case first => as_aux_lemma =>
    go_wp2_with fail
    go_loopw [4, 6] (fun iv sv wx => ∃ k : Nat, iv = .int .i64 ((i0 + k : Nat) : Int) ∧ k ≤ a ∧ Hid (RP w wx sv (l1.take k))) (fun iv _ _ => 50001 - (intOf iv).toNat)
    case atStart => exact ⟨0, rfl, Nat.zero_le _, P0⟩
    case round =>
      obtain ⟨k, rfl, ka, HP⟩ := hrel
      clear P0
      obtain ⟨d, hd⟩ : ∃ d, l1.take k = d := ⟨_, rfl⟩
      rw [hd] at HP
      have HD := Lib.hid hd
      clear hd
      obtain ⟨AA, kc, rfl⟩ := own_slice HP.out.own
      have k0 : (0 : Int) ≤ ((i0 + k : Nat) : Int) := by omega
      have kb := A1.out; have kl := L1.out
      by_cases hlt : i0 + k < s.size
      · have klt : ((i0 + k : Nat) : Int) < (s.size : Int) := by omega
        have bs := BG.out (i0 + k) hlt
        have br := BR.out (i0 + k)
        obtain ⟨z, hz⟩ : ∃ z, B l (i0 + k) = z := ⟨_, rfl⟩
        rw [hz] at bs br
        have hz1 : B l1 k = z := (B1.out k).trans hz
        have w2 : IntKind.i64.wrap (((i0 + k : Nat) : Int) + 1) = ((i0 + (k + 1) : Nat) : Int) := by rw [IntKind.wrap_i64]; omega
        have RD := Lib.hid (fun W => AD.out z br.1 br.2 W)
        by_cases h2 : 48 ≤ z ∧ z ≤ 57
        · rw [decide_eq_true h2] at RD
          have nx : k + 1 ≤ a := by rw [← HA.out]; exact run_more (by rw [HA.out]; exact ka) (by omega) (by rw [hz1]; exact isDg_t h2)
          have TS : Hid (d ++ [UInt8.ofNat z.toNat] = l1.take (k + 1)) := by
            unfold Hid; rw [← HD.out, ← hz, ← HL.out]; exact take_snoc l i0 k (by rw [← SZ.out]; exact hlt)
          have lk : d.length = k := by rw [← HD.out, List.length_take]; omega
          have OW := Lib.hid HP.out.own
          have SB := Lib.hid HP.out.sz
          have kn : d.length + 1 ≤ 2000000000 := by omega
          have Z01 := Lib.hid (And.intro br.1 br.2)
          clear hz hz1 br kb kl lk h2
          go_wp2_with fail
          refine (RD.out _).mono ?_
          rintro e w3 ⟨rfl, rfl⟩
          go_wp2_with (at_builtin; refine wpList_appB1 rfl _ _ rfl (w.heap.size + 1) _ d.length (bI d) z OW.out rfl rfl kn SB.out ?_; intro v' w5 hown5 hb5; obtain ⟨A5, k5, rfl⟩ := own_slice hown5; have P5 := Lib.hid (TS.out ▸ HP.out.app Z01.out.1 Z01.out.2 hb5 hown5 : RP w w5 _ (l1.take (k + 1))); clear hown5 hb5)
          go_roundw
          case rel => exact ⟨k + 1, by go_num, nx, P5⟩
          case measure => simp [intOf]; omega
        · rw [decide_eq_false h2] at RD
          have ek : k = a := by rw [← HA.out]; exact run_ends (by rw [HA.out]; exact ka) (by rw [hz1]; exact isDg_f h2)
          subst ek
          clear hz hz1 h2
          go_wp2_with fail
          refine (RD.out _).mono ?_
          rintro e w3 ⟨rfl, rfl⟩
          go_wp2
          go_meet
          exact ⟨rfl, by rw [HD.out]; exact HP⟩
      · have klt : ¬ ((i0 + k : Nat) : Int) < (s.size : Int) := by omega
        have ek : k = a := by omega
        subst ek
        go_wp2
        go_meet
        exact ⟨rfl, by rw [HD.out]; exact HP⟩
  case rest =>
  obtain ⟨rfl, P1⟩ := hcut
  clear P0
  obtain ⟨d1, hd1⟩ : ∃ d, l1.take a = d := ⟨_, rfl⟩
  rw [hd1] at P1
  obtain ⟨D1, c1, rfl⟩ := own_slice P1.out.own
  have la : a + i0 ≤ s.size := by have := A1.out; have := L1.out; omega
  obtain ⟨i1, hi1⟩ : ∃ i, i0 + a = i := ⟨_, rfl⟩
  rw [hi1]
  have EV2 : Hid (v = if l.drop i1 ≠ [] ∧ B l i1 = 46 then (if d1 ++ (l.drop (i1 + 1)).take (run isDg (l.drop (i1 + 1))) = [] then bad else docE ng (d1 ++ (l.drop (i1 + 1)).take (run isDg (l.drop (i1 + 1)))) (run isDg (l.drop (i1 + 1))) (l.drop (i1 + 1 + run isDg (l.drop (i1 + 1))))) else (if d1 = [] then bad else docE ng d1 0 (l.drop i1))) := by
    have e := EV.out
    rw [HL.out] at e
    unfold docM at e
    rw [HA.out, hd1] at e
    have em : l1.drop a = l.drop i1 := by rw [← HL.out, List.drop_drop, ← hi1]
    have em2 : (l.drop i1).drop 1 = l.drop (i1 + 1) := by rw [List.drop_drop]
    have eb : B (l.drop i1) 0 = B l i1 := B_drop l i1 0
    rw [em, em2, eb, List.drop_drop] at e
    exact e
  have i1s : i1 ≤ s.size := by omega
  have DL : Hid (d1.length ≤ 50000) := by unfold Hid; rw [← hd1, List.length_take]; have := A1.out; have := L1.out; omega
  clear EV HL HA B1 L1 A1 hi1 hd1 la I0
  obtain ⟨dt, hdt⟩ : ∃ dt, (decide (i1 < s.size) && decide (B l i1 = 46)) = dt := ⟨_, rfl⟩
  have HDT := Lib.hid hdt
  clear hdt
  go_upto_region 11 with fail
  go_cut [50] (fun cv wx => cv = .bool dt ∧ wc = wx)
  case first => as_aux_lemma =>
    by_cases h0 : i1 < s.size
    · have h0i : (i1 : Int) < (s.size : Int) := by omega
      have h0n : (0 : Int) ≤ (i1 : Int) := by omega
      have b0 := BG.out i1 h0
      obtain ⟨z, hz⟩ : ∃ z, B l i1 = z := ⟨_, rfl⟩
      rw [hz] at b0
      have e := HDT.out
      rw [decide_eq_true h0, hz, Bool.true_and] at e
      by_cases h1 : z = 46
      · have bz : (z == 46) = true := beq_iff_eq.2 h1
        obtain rfl : dt = true := by rw [← e]; exact decide_eq_true h1
        clear hz e h1
        go_wp2
        go_meet
        exact ⟨rfl, rfl⟩
      · have bz : (z == 46) = false := beq_eq_false_iff_ne.2 h1
        obtain rfl : dt = false := by rw [← e]; exact decide_eq_false h1
        clear hz e h1
        go_wp2
        go_meet
        exact ⟨rfl, rfl⟩
    · have h0i : ¬ (i1 : Int) < (s.size : Int) := by omega
      have e := HDT.out
      rw [decide_eq_false h0, Bool.false_and] at e
      obtain rfl : dt = false := e.symm
      clear e
      go_wp2
      go_meet
      exact ⟨rfl, rfl⟩
  case rest =>
  obtain ⟨rfl, rfl⟩ := hcut
  go_upto_if 50 with fail
  go_cut [4, 6, 8] (fun iv sv ev wx => ∃ (dd : List UInt8) (b i3 : Nat), iv = .int .i64 (i3 : Int) ∧ ev = .int .i64 (-(b : Int)) ∧ i3 ≤ s.size ∧ b ≤ s.size ∧ Hid (RP w wx sv dd) ∧ Hid (v = if dd = [] then bad else docE ng dd b (l.drop i3)) ∧ Hid (dd = [] → d1 = []) ∧ Hid (dd.length ≤ 200000))
  case first => as_aux_lemma =>
    cases dt with
    | true =>
        have h01 : i1 < s.size ∧ B l i1 = 46 := by have := HDT.out; rw [Bool.and_eq_true] at this; exact ⟨of_decide_eq_true this.1, of_decide_eq_true this.2⟩
        obtain ⟨h0, h1⟩ := h01
        have mn : l.drop i1 ≠ [] := fun e => by have := congrArg List.length e; rw [List.length_drop, ← SZ.out] at this; simp at this; omega
        have e := EV2.out.trans (if_pos ⟨mn, h1⟩)
        have w1 : IntKind.i64.wrap ((i1 : Int) + 1) = ((i1 + 1 : Nat) : Int) := by rw [IntKind.wrap_i64]; omega
        obtain ⟨i2, hi2⟩ : ∃ i, i1 + 1 = i := ⟨_, rfl⟩
        rw [hi2] at e w1
        obtain ⟨l2, hl2⟩ : ∃ l2, l.drop i2 = l2 := ⟨_, rfl⟩
        rw [hl2] at e
        obtain ⟨b, hb⟩ : ∃ b, run isDg l2 = b := ⟨_, rfl⟩
        rw [hb] at e
        have EV3 := Lib.hid e
        have A2 : Hid (b ≤ l2.length) := by unfold Hid; rw [← hb]; exact run_le _ _
        have L2 : Hid (l2.length = s.size - i2) := by unfold Hid; rw [← hl2, List.length_drop, ← SZ.out]
        have B2 : Hid (∀ k, B l2 k = B l (i2 + k)) := fun k => by rw [← hl2]; exact B_drop l i2 k
        have HA2 := Lib.hid hb
        have HL2 := Lib.hid hl2
        have i2s : i2 ≤ s.size := by omega
        clear e hl2 hb mn h1 hi2 EV2
        go_wp2_with fail
        go_loopw [4, 6, 8] (fun iv sv ev wx => ∃ k : Nat, iv = .int .i64 ((i2 + k : Nat) : Int) ∧ ev = .int .i64 (-(k : Int)) ∧ k ≤ b ∧ Hid (RP w wx sv (d1 ++ l2.take k))) (fun iv _ _ _ => 50001 - (intOf iv).toNat)
        case atStart => exact ⟨0, rfl, rfl, Nat.zero_le _, by rw [List.take_zero, List.append_nil]; exact P1⟩
        case round =>
          obtain ⟨k, rfl, rfl, ka, HP⟩ := hrel
          clear P1
          obtain ⟨d, hd⟩ : ∃ d, d1 ++ l2.take k = d := ⟨_, rfl⟩
          rw [hd] at HP
          have HD := Lib.hid hd
          clear hd
          obtain ⟨AA, kc, rfl⟩ := own_slice HP.out.own
          have k0 : (0 : Int) ≤ ((i2 + k : Nat) : Int) := by omega
          have kb := A2.out; have kl := L2.out
          by_cases hlt : i2 + k < s.size
          · have klt : ((i2 + k : Nat) : Int) < (s.size : Int) := by omega
            have bs := BG.out (i2 + k) hlt
            have br := BR.out (i2 + k)
            obtain ⟨z, hz⟩ : ∃ z, B l (i2 + k) = z := ⟨_, rfl⟩
            rw [hz] at bs br
            have hz1 : B l2 k = z := (B2.out k).trans hz
            have w2 : IntKind.i64.wrap (((i2 + k : Nat) : Int) + 1) = ((i2 + (k + 1) : Nat) : Int) := by rw [IntKind.wrap_i64]; omega
            have w3 : IntKind.i64.wrap (-(k : Int) - 1) = -((k + 1 : Nat) : Int) := by rw [IntKind.wrap_i64]; omega
            have RD := Lib.hid (fun W => AD.out z br.1 br.2 W)
            by_cases h2 : 48 ≤ z ∧ z ≤ 57
            · rw [decide_eq_true h2] at RD
              have nx : k + 1 ≤ b := by rw [← HA2.out]; exact run_more (by rw [HA2.out]; exact ka) (by omega) (by rw [hz1]; exact isDg_t h2)
              have TS : Hid (d ++ [UInt8.ofNat z.toNat] = d1 ++ l2.take (k + 1)) := by
                unfold Hid; rw [← HD.out, List.append_assoc, ← hz, ← HL2.out]; exact congrArg (fun x => d1 ++ x) (take_snoc l i2 k (by rw [← SZ.out]; exact hlt))
              have ld := HP.out.own.1
              have lk : d.length ≤ 100000 := by
                have : d1.length ≤ 50000 := DL.out
                rw [← HD.out, List.length_append, List.length_take]; omega
              have OW := Lib.hid HP.out.own
              have SB := Lib.hid HP.out.sz
              have kn : d.length + 1 ≤ 2000000000 := by omega
              have Z01 := Lib.hid (And.intro br.1 br.2)
              clear hz hz1 br kb kl lk h2 ld
              go_wp2_with fail
              refine (RD.out _).mono ?_
              rintro e w3 ⟨rfl, rfl⟩
              go_wp2_with (at_builtin; refine wpList_appB1 rfl _ _ rfl (w.heap.size + 1) _ d.length (bI d) z OW.out rfl rfl kn SB.out ?_; intro v' w5 hown5 hb5; obtain ⟨A5, k5, rfl⟩ := own_slice hown5; have P5 := Lib.hid (TS.out ▸ HP.out.app Z01.out.1 Z01.out.2 hb5 hown5 : RP w w5 _ (d1 ++ l2.take (k + 1))); clear hown5 hb5)
              go_roundw
              case rel => exact ⟨k + 1, by go_num, by go_num, nx, P5⟩
              case measure => simp [intOf]; omega
            · rw [decide_eq_false h2] at RD
              have ek : k = b := by rw [← HA2.out]; exact run_ends (by rw [HA2.out]; exact ka) (by rw [hz1]; exact isDg_f h2)
              subst ek
              clear hz hz1 h2
              go_wp2_with fail
              refine (RD.out _).mono ?_
              rintro e w3 ⟨rfl, rfl⟩
              go_wp2
              go_meet
              exact ⟨d, k, i2 + k, rfl, rfl, by omega, by omega, HP, by rw [← HD.out]; exact EV3, fun e => by rw [← HD.out] at e; exact (List.append_eq_nil_iff.1 e).1, by have := DL.out; have := A2.out; have := L2.out; unfold Hid; rw [← HD.out, List.length_append, List.length_take]; omega⟩
          · have klt : ¬ ((i2 + k : Nat) : Int) < (s.size : Int) := by omega
            have ek : k = b := by omega
            subst ek
            go_wp2
            go_meet
            exact ⟨d, k, i2 + k, rfl, rfl, by omega, by omega, HP, by rw [← HD.out]; exact EV3, fun e => by rw [← HD.out] at e; exact (List.append_eq_nil_iff.1 e).1, by have := DL.out; have := A2.out; have := L2.out; unfold Hid; rw [← HD.out, List.length_append, List.length_take]; omega⟩
    | false =>
      have EV3 := Lib.hid (EV2.out.trans (if_neg (fun q => by
        have e := HDT.out
        have h0 : i1 < s.size := by
          rcases Nat.lt_or_ge i1 s.size with h | h
          · exact h
          · exact absurd (List.drop_eq_nil_of_le (by rw [← SZ.out]; exact h)) q.1
        rw [decide_eq_true h0, decide_eq_true q.2] at e
        cases e)))
      go_wp2
      go_meet
      exact ⟨d1, 0, i1, rfl, rfl, i1s, Nat.zero_le _, P1, EV3, id, by have := DL.out; unfold Hid; omega⟩
  case rest =>
  obtain ⟨dd, b, i3, rfl, rfl, i3s, bs, P3, EV3, DN, DB⟩ := hcut
  obtain ⟨D3, c3, rfl⟩ := own_slice P3.out.own
  by_cases hdd : dd = []
  · have A : Hid (v = bad) := EV3.out.trans (if_pos hdd)
    have i1z : (d1.length : Int) = 0 := by rw [DN.out hdd]; rfl
    have i3z : (dd.length : Int) = 0 := by rw [hdd]; rfl
    obtain ⟨r0, r1, r2⟩ := P3.out.res
    have f0 := P3.out.fr 0; have f1 := P3.out.fr 1; have f2 := P3.out.fr 2
    clear hdd EV3
    go_wp2
    refine bodyPost_ret (v := .tuple #[.agg #[.bool false, .string ⟨#[]⟩, .int .i64 0], .int .i64 3]) (by simp [results, Tryd.results23, go_sem, *]) rfl ⟨by rw [A.out] <;> rfl, ?_⟩
    have hB := P3.out.hb
    (repeat' first | exact Below.refl _ _ | assumption | refine Below.drew ?_ | refine Below.alloc ?_ ?_ _ | refine Below.setCell ?_ ?_ _ | refine below_drewN ?_ _ | (simp; done) | omega | (simp; omega))
  · have i3z : ((dd.length : Int) == 0) = false := beq_eq_false_iff_ne.2 (fun e => hdd (List.eq_nil_of_length_eq_zero (by omega)))
    replace EV3 := Lib.hid (EV3.out.trans (if_neg hdd))
    have HDD := Lib.hid hdd
    clear hdd DN
    obtain ⟨et, het⟩ : ∃ et, (decide (i3 < s.size) && (decide (B l i3 = 101) || decide (B l i3 = 69))) = et := ⟨_, rfl⟩
    have HET := Lib.hid het
    clear het
    go_upto_region 19 with fail
    go_cut [96] (fun cv wx => cv = .bool et ∧ wc = wx)
    case first => as_aux_lemma =>
      by_cases h0 : i3 < s.size
      · have h0i : (i3 : Int) < (s.size : Int) := by omega
        have h0n : (0 : Int) ≤ (i3 : Int) := by omega
        have b0 := BG.out i3 h0
        obtain ⟨z, hz⟩ : ∃ z, B l i3 = z := ⟨_, rfl⟩
        rw [hz] at b0
        have e := HET.out
        rw [decide_eq_true h0, hz, Bool.true_and] at e
        by_cases h1 : z = 101
        · have bz : (z == 101) = true := beq_iff_eq.2 h1
          obtain rfl : et = true := by rw [← e, decide_eq_true h1]; rfl
          clear hz e h1
          go_wp2
          go_meet
          exact ⟨rfl, rfl⟩
        · have bz : (z == 101) = false := beq_eq_false_iff_ne.2 h1
          rw [decide_eq_false h1, Bool.false_or] at e
          by_cases h2 : z = 69
          · have bz2 : (z == 69) = true := beq_iff_eq.2 h2
            obtain rfl : et = true := by rw [← e]; exact decide_eq_true h2
            clear hz e h1 h2
            go_wp2
            go_meet
            exact ⟨rfl, rfl⟩
          · have bz2 : (z == 69) = false := beq_eq_false_iff_ne.2 h2
            obtain rfl : et = false := by rw [← e]; exact decide_eq_false h2
            clear hz e h1 h2
            go_wp2
            go_meet
            exact ⟨rfl, rfl⟩
      · have h0i : ¬ (i3 : Int) < (s.size : Int) := by omega
        have e := HET.out
        rw [decide_eq_false h0, Bool.false_and] at e
        obtain rfl : et = false := e.symm
        clear e
        go_wp2
        go_meet
        exact ⟨rfl, rfl⟩
    case rest =>
    obtain ⟨rfl, rfl⟩ := hcut
    go_upto_if 96 with fail
    go_cut [4, 8] (fun iv ev wx => ∃ (i6 : Nat) (X : Int), iv = .int .i64 (i6 : Int) ∧ ev = .int .i64 X ∧ -10000000000 ≤ X ∧ X ≤ 10000000000 ∧ Hid (v = if i6 < s.size then bad else makeV ng dd X) ∧ wc = wx)
    case first => as_aux_lemma =>
      cases et with
      | false =>
        have E4 : Hid (v = if i3 < s.size then bad else makeV ng dd (-(b : Int))) := by
          have hr : ¬ (l.drop i3 ≠ [] ∧ (B (l.drop i3) 0 = 101 ∨ B (l.drop i3) 0 = 69)) := fun q => by
            have e := HET.out
            have h0 : i3 < s.size := by
              rcases Nat.lt_or_ge i3 s.size with h | h
              · exact h
              · exact absurd (List.drop_eq_nil_of_le (by rw [← SZ.out]; exact h)) q.1
            have hb0 : B (l.drop i3) 0 = B l i3 := B_drop l i3 0
            rw [hb0] at q
            rw [decide_eq_true h0, Bool.true_and, Bool.or_eq_false_iff] at e
            rcases q.2 with z | z
            · exact absurd z (of_decide_eq_false e.1)
            · exact absurd z (of_decide_eq_false e.2)
          have e2 : docE ng dd b (l.drop i3) = if l.drop i3 ≠ [] then bad else makeV ng dd (-(b : Int)) := if_neg hr
          unfold Hid; rw [EV3.out, e2]
          by_cases h0 : i3 < s.size
          · rw [if_pos h0, if_pos (fun e => by have := congrArg List.length e; rw [List.length_drop, ← SZ.out] at this; simp at this; omega)]
          · rw [if_neg h0, if_neg (fun e => e (List.drop_eq_nil_of_le (by rw [← SZ.out]; omega)))]
        clear EV3 HET
        go_wp2
        go_meet
        exact ⟨i3, -(b : Int), rfl, rfl, by omega, by omega, E4, rfl⟩
      | true =>
        have h01 : i3 < s.size ∧ (B l i3 = 101 ∨ B l i3 = 69) := by
          have e := HET.out
          rw [Bool.and_eq_true, Bool.or_eq_true] at e
          exact ⟨of_decide_eq_true e.1, e.2.imp of_decide_eq_true of_decide_eq_true⟩
        obtain ⟨h0, h1⟩ := h01
        have mn : l.drop i3 ≠ [] := fun e => by have := congrArg List.length e; rw [List.length_drop, ← SZ.out] at this; simp at this; omega
        have w1 : IntKind.i64.wrap ((i3 : Int) + 1) = ((i3 + 1 : Nat) : Int) := by rw [IntKind.wrap_i64]; omega
        obtain ⟨i4, hi4⟩ : ∃ i, i3 + 1 = i := ⟨_, rfl⟩
        have E4 : Hid (v = if l.drop i4 ≠ [] ∧ B l i4 = 43 then tenV ng dd b 1 (l.drop (i4 + 1)) else if l.drop i4 ≠ [] ∧ B l i4 = 45 then tenV ng dd b (-1) (l.drop (i4 + 1)) else tenV ng dd b 1 (l.drop i4)) := by
          have hb0 : B (l.drop i3) 0 = B l i3 := B_drop l i3 0
          have e2 := EV3.out.trans (if_pos ⟨mn, by rw [hb0]; exact h1⟩)
          have ed : (l.drop i3).drop 1 = l.drop i4 := by rw [List.drop_drop, hi4]
          have ed2 : (l.drop i4).drop 1 = l.drop (i4 + 1) := by rw [List.drop_drop]
          have hb1 : B (l.drop i4) 0 = B l i4 := B_drop l i4 0
          rw [ed, ed2, hb1] at e2
          exact e2
        rw [hi4] at w1
        have i4s : i4 ≤ s.size := by omega
        clear EV3 HET hi4 mn h0 h1
        obtain ⟨sb, hsb⟩ : ∃ sb, (decide (i4 < s.size) && (decide (B l i4 = 43) || decide (B l i4 = 45))) = sb := ⟨_, rfl⟩
        have HSB := Lib.hid hsb
        clear hsb
        go_upto_region 22 with fail
        go_cut [114] (fun cv wx => cv = .bool sb ∧ wc = wx)
        case first =>
          by_cases h0 : i4 < s.size
          · have h0i : (i4 : Int) < (s.size : Int) := by omega
            have h0n : (0 : Int) ≤ (i4 : Int) := by omega
            have b0 := BG.out i4 h0
            obtain ⟨z, hz⟩ : ∃ z, B l i4 = z := ⟨_, rfl⟩
            rw [hz] at b0
            have e := HSB.out
            rw [decide_eq_true h0, hz, Bool.true_and] at e
            by_cases h1 : z = 43
            · have bz : (z == 43) = true := beq_iff_eq.2 h1
              obtain rfl : sb = true := by rw [← e, decide_eq_true h1]; rfl
              clear hz e h1
              go_wp2
              go_meet
              exact ⟨rfl, rfl⟩
            · have bz : (z == 43) = false := beq_eq_false_iff_ne.2 h1
              rw [decide_eq_false h1, Bool.false_or] at e
              by_cases h2 : z = 45
              · have bz2 : (z == 45) = true := beq_iff_eq.2 h2
                obtain rfl : sb = true := by rw [← e]; exact decide_eq_true h2
                clear hz e h1 h2
                go_wp2
                go_meet
                exact ⟨rfl, rfl⟩
              · have bz2 : (z == 45) = false := beq_eq_false_iff_ne.2 h2
                obtain rfl : sb = false := by rw [← e]; exact decide_eq_false h2
                clear hz e h1 h2
                go_wp2
                go_meet
                exact ⟨rfl, rfl⟩
          · have h0i : ¬ (i4 : Int) < (s.size : Int) := by omega
            have e := HSB.out
            rw [decide_eq_false h0, Bool.false_and] at e
            obtain rfl : sb = false := e.symm
            clear e
            go_wp2
            go_meet
            exact ⟨rfl, rfl⟩
        case rest =>
        obtain ⟨rfl, rfl⟩ := hcut
        go_upto_if 114 with fail
        go_cut [4, 9] (fun iv sv wx => ∃ (i5 : Nat) (sg : Int), iv = .int .i64 (i5 : Int) ∧ sv = .int .i64 sg ∧ i5 ≤ s.size ∧ (sg = 1 ∨ sg = -1) ∧ Hid (v = tenV ng dd b sg (l.drop i5)) ∧ wc = wx)
        case first =>
          cases sb with
          | true =>
            have h01 : i4 < s.size ∧ (B l i4 = 43 ∨ B l i4 = 45) := by
              have e := HSB.out
              rw [Bool.and_eq_true, Bool.or_eq_true] at e
              exact ⟨of_decide_eq_true e.1, e.2.imp of_decide_eq_true of_decide_eq_true⟩
            obtain ⟨h0, h1⟩ := h01
            have mn : l.drop i4 ≠ [] := fun e => by have := congrArg List.length e; rw [List.length_drop, ← SZ.out] at this; simp at this; omega
            have w5 : IntKind.i64.wrap ((i4 : Int) + 1) = ((i4 + 1 : Nat) : Int) := by rw [IntKind.wrap_i64]; omega
            have h0i : (i4 : Int) < (s.size : Int) := by omega
            have h0n : (0 : Int) ≤ (i4 : Int) := by omega
            have b0 := BG.out i4 h0
            obtain ⟨z, hz⟩ : ∃ z, B l i4 = z := ⟨_, rfl⟩
            rw [hz] at b0 h1
            by_cases h2 : z = 45
            · have E5 : Hid (v = tenV ng dd b (-1) (l.drop (i4 + 1))) := E4.out.trans ((if_neg (fun q => by have := q.2; omega)).trans (if_pos ⟨mn, hz.trans h2⟩))
              have bz : (z == 45) = true := beq_iff_eq.2 h2
              clear hz h1 h2 E4 mn
              go_wp2
              go_meet
              exact ⟨i4 + 1, -1, rfl, rfl, by omega, Or.inr rfl, E5, rfl⟩
            · have E5 : Hid (v = tenV ng dd b 1 (l.drop (i4 + 1))) := E4.out.trans (if_pos ⟨mn, hz.trans (by omega)⟩)
              have bz : (z == 45) = false := beq_eq_false_iff_ne.2 h2
              clear hz h1 h2 E4 mn
              go_wp2
              go_meet
              exact ⟨i4 + 1, 1, rfl, rfl, by omega, Or.inl rfl, E5, rfl⟩
          | false =>
            have E5 : Hid (v = tenV ng dd b 1 (l.drop i4)) := by
              have lt : l.drop i4 ≠ [] → i4 < s.size := fun q => by
                rcases Nat.lt_or_ge i4 s.size with h | h
                · exact h
                · exact absurd (List.drop_eq_nil_of_le (by rw [← SZ.out]; exact h)) q
              have e := HSB.out
              refine E4.out.trans ((if_neg (fun q => ?_)).trans (if_neg (fun q => ?_)))
              · rw [decide_eq_true (lt q.1), decide_eq_true q.2] at e; cases e
              · rw [decide_eq_true (lt q.1), decide_eq_true q.2, Bool.or_true] at e; cases e
            clear E4 HSB
            go_wp2
            go_meet
            exact ⟨i4, 1, rfl, rfl, i4s, Or.inl rfl, E5, rfl⟩
        case rest =>
        obtain ⟨i5, sg, rfl, rfl, i5s, hsg, E5, rfl⟩ := hcut
        clear E4 HSB i4s w1
        obtain ⟨l5, hl5⟩ : ∃ l5, l.drop i5 = l5 := ⟨_, rfl⟩
        rw [hl5] at E5
        obtain ⟨a5, ha5⟩ : ∃ a, run isDg l5 = a := ⟨_, rfl⟩
        have A5 : Hid (a5 ≤ l5.length) := by unfold Hid; rw [← ha5]; exact run_le _ _
        have L5 : Hid (l5.length = s.size - i5) := by unfold Hid; rw [← hl5, List.length_drop, ← SZ.out]
        have B5 : Hid (∀ k, B l5 k = B l (i5 + k)) := fun k => by rw [← hl5]; exact B_drop l i5 k
        have HA5 := Lib.hid ha5
        obtain ⟨m, hm⟩ : ∃ m, min 9 a5 = m := ⟨_, rfl⟩
        have T5 : Hid (v = if m = 0 then bad else if m < s.size - i5 then bad else makeV ng dd (-(b : Int) + sg * numF 0 (l5.take m))) := by
          have e := E5.out; unfold tenV at e; rw [HA5.out, L5.out, hm] at e; exact e
        have HM : Hid (m ≤ 9 ∧ m ≤ a5 ∧ (m = 9 ∨ m = a5)) := by unfold Hid; omega
        obtain ⟨N, hN⟩ : ∃ N, numF 0 (l5.take m) = N := ⟨_, rfl⟩
        have NB : Hid (0 ≤ N ∧ N < 1000000000) := by unfold Hid; rw [← hN]; exact numF_9 l5 m (by rw [HA5.out]; exact HM.out.2.1) HM.out.1
        rw [hN] at T5
        have HN := Lib.hid hN
        have w9 : IntKind.i64.wrap ((i5 : Int) + 9) = ((i5 + 9 : Nat) : Int) := by rw [IntKind.wrap_i64]; omega
        clear hl5 ha5 E5 hm hN
        go_upto_block 4 with fail
        go_cut [4, 10] (fun iv nv wx => iv = .int .i64 ((i5 + m : Nat) : Int) ∧ nv = .int .i64 N ∧ wc = wx)
        case first => as_aux_lemma =>
          go_wp2_with fail
          go_loopw [4, 10] (fun iv nv wx => ∃ (k : Nat) (M : Int), iv = .int .i64 ((i5 + k : Nat) : Int) ∧ nv = .int .i64 M ∧ Hid (M = numF 0 (l5.take k)) ∧ k ≤ m ∧ wc = wx) (fun iv _ _ => 50001 - (intOf iv).toNat)
          case atStart => exact ⟨0, 0, rfl, rfl, rfl, Nat.zero_le _, rfl⟩
          case round =>
            obtain ⟨k, M, rfl, rfl, HK, km, rfl⟩ := hrel
            obtain ⟨m9, ma, me⟩ := HM.out
            have k0 : (0 : Int) ≤ ((i5 + k : Nat) : Int) := by omega
            have kb := A5.out; have kl := L5.out
            by_cases hlt : i5 + k < s.size
            · have klt : ((i5 + k : Nat) : Int) < (s.size : Int) := by omega
              have bs := BG.out (i5 + k) hlt
              have br := BR.out (i5 + k)
              obtain ⟨z, hz⟩ : ∃ z, B l (i5 + k) = z := ⟨_, rfl⟩
              rw [hz] at bs br
              have hz1 : B l5 k = z := (B5.out k).trans hz
              have w2 : IntKind.i64.wrap (((i5 + k : Nat) : Int) + 1) = ((i5 + (k + 1) : Nat) : Int) := by rw [IntKind.wrap_i64]; omega
              have RD := Lib.hid (fun W => AD.out z br.1 br.2 W)
              by_cases h2 : 48 ≤ z ∧ z ≤ 57
              · rw [decide_eq_true h2] at RD
                have nx : k + 1 ≤ a5 := by rw [← HA5.out]; exact run_more (by rw [HA5.out]; omega) (by omega) (by rw [hz1]; exact isDg_t h2)
                by_cases h9 : k < 9
                · have i9 : ((i5 + k : Nat) : Int) < ((i5 + 9 : Nat) : Int) := by omega
                  have nb := numF_9 l5 k (by rw [HA5.out]; omega) (by omega)
                  have ns := numF_take (l := l5) (k := k) (by omega) 0
                  rw [← HK.out] at nb ns
                  rw [hz1] at ns
                  obtain ⟨M2, hM2⟩ : ∃ M2, M * 10 + (z - 48) = M2 := ⟨_, rfl⟩
                  have HK2 : Hid (M2 = numF 0 (l5.take (k + 1))) := by unfold Hid; rw [← hM2]; exact ns.symm
                  have x1 : IntKind.u8.wrap (z - 48) = z - 48 := by rw [IntKind.wrap_u8]; omega
                  have x2 : IntKind.i64.wrap (z - 48) = z - 48 := by rw [IntKind.wrap_i64]; omega
                  have x3 : IntKind.i64.wrap (10 * M) = 10 * M := by rw [IntKind.wrap_i64]; omega
                  have x4 : IntKind.i64.wrap (10 * M + (z - 48)) = M2 := by rw [IntKind.wrap_i64]; omega
                  have nm : k + 1 ≤ m := by omega
                  clear hz hz1 br kb kl h2 nb ns hM2 m9 ma me
                  go_wp2_with fail
                  refine (RD.out _).mono ?_
                  rintro e w3 ⟨rfl, rfl⟩
                  go_wp2
                  go_roundw
                  case rel => exact ⟨k + 1, M2, by go_num, rfl, HK2, nm, by first | trivial | rfl⟩
                  case measure => simp [intOf]; omega
                · have i9 : ¬ ((i5 + k : Nat) : Int) < ((i5 + 9 : Nat) : Int) := by omega
                  obtain rfl : k = m := by omega
                  obtain rfl : M = N := HK.out.trans HN.out
                  clear hz hz1 br kb kl h2 m9 ma me
                  go_wp2_with fail
                  refine (RD.out _).mono ?_
                  rintro e w3 ⟨rfl, rfl⟩
                  go_wp2
                  go_meet
                  exact ⟨rfl, rfl, rfl⟩
              · rw [decide_eq_false h2] at RD
                have ek : k = a5 := by rw [← HA5.out]; exact run_ends (by rw [HA5.out]; omega) (by rw [hz1]; exact isDg_f h2)
                obtain rfl : k = m := by omega
                obtain rfl : M = N := HK.out.trans HN.out
                clear hz hz1 br kb kl h2 m9 ma me ek
                go_wp2_with fail
                refine (RD.out _).mono ?_
                rintro e w3 ⟨rfl, rfl⟩
                go_wp2
                go_meet
                exact ⟨rfl, rfl, rfl⟩
            · have klt : ¬ ((i5 + k : Nat) : Int) < (s.size : Int) := by omega
              obtain rfl : k = m := by omega
              obtain rfl : M = N := HK.out.trans HN.out
              clear kb kl m9 ma me
              go_wp2
              go_meet
              exact ⟨rfl, rfl, rfl⟩
        case rest =>
        obtain ⟨rfl, rfl, rfl⟩ := hcut
        by_cases hm : m = 0
        · have A : Hid (v = bad) := T5.out.trans (if_pos hm)
          have e31 : (((i5 + m : Nat) : Int) == (i5 : Int)) = true := beq_iff_eq.2 (by omega)
          obtain ⟨r0, r1, r2⟩ := P3.out.res
          have f0 := P3.out.fr 0; have f1 := P3.out.fr 1; have f2 := P3.out.fr 2
          clear hm T5
          go_wp2
          refine bodyPost_ret (v := .tuple #[.agg #[.bool false, .string ⟨#[]⟩, .int .i64 0], .int .i64 3]) (by simp [results, Tryd.results23, go_sem, *]) rfl ⟨by rw [A.out] <;> rfl, ?_⟩
          have hB := P3.out.hb
          (repeat' first | exact Below.refl _ _ | assumption | refine Below.drew ?_ | refine Below.alloc ?_ ?_ _ | refine Below.setCell ?_ ?_ _ | refine below_drewN ?_ _ | (simp; done) | omega | (simp; omega))
        · have e31 : (((i5 + m : Nat) : Int) == (i5 : Int)) = false := beq_eq_false_iff_ne.2 (fun q => by omega)
          have T6 : Hid (v = if i5 + m < s.size then bad else makeV ng dd (-(b : Int) + sg * N)) := by
            refine T5.out.trans ((if_neg hm).trans ?_)
            by_cases h6 : i5 + m < s.size
            · rw [if_pos h6, if_pos (by omega)]
            · rw [if_neg h6, if_neg (by omega)]
          obtain ⟨Q, hQ⟩ : ∃ Q, sg * N = Q := ⟨_, rfl⟩
          have QB : -1000000000 < Q ∧ Q < 1000000000 := by
            have := NB.out
            rw [← hQ]; rcases hsg with h | h <;> rw [h] <;> omega
          rw [hQ] at T6
          have x1 : IntKind.i64.wrap (sg * N) = Q := by rw [hQ, IntKind.wrap_i64]; omega
          obtain ⟨X, hX⟩ : ∃ X, -(b : Int) + Q = X := ⟨_, rfl⟩
          rw [hX] at T6
          have x2 : IntKind.i64.wrap (-(b : Int) + Q) = X := by rw [hX, IntKind.wrap_i64]; omega
          clear T5 hsg hQ hm
          go_wp2
          go_meet
          exact ⟨i5 + m, X, rfl, rfl, by omega, by omega, T6, rfl⟩
    case rest =>
    obtain ⟨i6, X, rfl, rfl, X0, X1, EV4, rfl⟩ := hcut
    obtain ⟨r0, r1, r2⟩ := P3.out.res
    have f0 := P3.out.fr 0; have f1 := P3.out.fr 1; have f2 := P3.out.fr 2
    clear EV3 HET
    by_cases h6 : i6 < s.size
    · have h6i : (i6 : Int) < (s.size : Int) := by omega
      have A : Hid (v = bad) := EV4.out.trans (if_pos h6)
      clear EV4
      go_wp2
      refine bodyPost_ret (v := .tuple #[.agg #[.bool false, .string ⟨#[]⟩, .int .i64 0], .int .i64 3]) (by simp [results, Tryd.results23, go_sem, *]) rfl ⟨by rw [A.out] <;> rfl, ?_⟩
      have hB := P3.out.hb
      (repeat' first | exact Below.refl _ _ | assumption | refine Below.drew ?_ | refine Below.alloc ?_ ?_ _ | refine Below.setCell ?_ ?_ _ | refine below_drewN ?_ _ | (simp; done) | omega | (simp; omega))
    · have h6i : ¬ (i6 : Int) < (s.size : Int) := by omega
      have hcv := row_str P3.out.own HDD.out
      have MK := Lib.hid (fun W => rmake_any ng ⟨dd.toArray⟩ X W (by have := DB.out; rw [bytes_size]; show dd.length ≤ _; omega) (by omega) (by omega))
      obtain ⟨cb, cq, cy, er, hmp⟩ := makeV_parts ng (⟨dd.toArray⟩ : ByteArray).data.toList X
      rw [hmp] at MK
      have A : Hid (v = (.agg #[.bool cb, .string cq, .int .i64 cy], er)) := (EV4.out.trans (if_neg h6)).trans hmp
      clear EV4 hmp
      go_wp2_with fail
      refine (MK.out _).mono ?_
      rintro e w3 ⟨rfl, hb3⟩
      have HB := Lib.hid (P3.out.hb.trans (hb3.mono (Nat.le_of_succ_le P3.out.sz)))
      have b3 := P3.out.res.on hb3 P3.out.sz
      have fr3 := fun j => froz_onB (P3.out.fr j) hb3 P3.out.sz
      clear r0 r1 r2 f0 f1 f2 hcv
      obtain ⟨r0, r1, r2⟩ := b3
      have f0 := fr3 0; have f1 := fr3 1; have f2 := fr3 2
      clear hb3 fr3
      go_wp2
      refine bodyPost_ret (v := .tuple #[.agg #[.bool cb, .string cq, .int .i64 cy], .int .i64 er]) (by simp [results, Tryd.results23, go_sem, *]) rfl ⟨by rw [A.out] <;> rfl, ?_⟩
      have hB := HB.out
      (repeat' first | exact Below.refl _ _ | assumption | refine Below.drew ?_ | refine Below.alloc ?_ ?_ _ | refine Below.setCell ?_ ?_ _ | refine below_drewN ?_ _ | (simp; done) | omega | (simp; omega))
end Go.Proofs.YtgjhpcmpgkfnkaaDoor
