/-
  Package decimal: Parse: walked.
-/
import Derived.Test.YtgjhpcmpgkfnkaaDoorA19
import Derived.Lib.OthersKept
import Derived.Laws.RangeAny
import Derived.LoopTactic
import Derived.WalkSmall
import Derived.Deep.CutBlock
import Derived.Deep.DeepCutAuto
namespace Go.Proofs.YtgjhpcmpgkfnkaaDoor
open Go.RowKit Go.Shelf

/-- What is read, byte by byte. -/
def runS : NSt → List UInt8 → Option NSt
  | σ, [] => some σ
  | σ, b :: l => match takeS σ (b.toNat : Int) with | none => none | some σ' => runS σ' l
def st0 : NSt := ⟨0, false, [], 0, false, 0, 0⟩
def endV (σ : NSt) : Value × Int :=
  if σ.ds = [] ∨ (3 ≤ σ.st ∧ σ.ec = 0) then (decV false [] 0, 3) else makeV σ.ng σ.ds ((if σ.ne = true then -σ.ex else σ.ex) - σ.pl)
/-- What is read of a text. -/
def parV (l : List UInt8) : Value × Int := match runS st0 l with | none => (decV false [] 0, 3) | some σ => endV σ
theorem runS_at {l : List UInt8} {k : Nat} (σ : NSt) (h : k < l.length) : runS σ (l.drop k) = match takeS σ (B l k) with | none => none | some σ' => runS σ' (l.drop (k + 1)) := by
  rw [List.drop_eq_getElem_cons h, B_cons h]; rfl
theorem st0_ok : NOk 0 st0 := ⟨by decide, by decide, by decide, by decide, by decide, by decide, by decide, by decide, by decide, by decide⟩
/-- No byte behind the ASCII ones, and no rune, goes on. -/
theorem take_high (σ : NSt) (z : Int) (h : 128 ≤ z) : takeS σ z = none := by
  unfold takeS
  rw [if_neg (by omega), if_neg (by omega), if_neg (by omega), if_neg (by omega), if_neg (by omega)]
theorem row_iter {w : World} {base e n k p : Nat} {v : Value} {xs : List Value} {s : ByteArray} (h : w.ownsRow base e 1 v n xs) (hb : k < base) : (Go.World.iterAt w k s p).ownsRow base e 1 v n xs := by
  refine ⟨h.1, ?_⟩
  rcases h.2 with z | ⟨g', cap, cur, rfl, h1, h2, h3⟩
  · exact .inl z
  · exact .inr ⟨g', cap, cur, rfl, h1, by rw [Lib.iterAt_other _ _ _ _ _ (by omega)]; exact h2, h3⟩
theorem Num.iter {W : World} {nb k p : Nat} {σ : NSt} {s : ByteArray} (h : Num W nb (k + 1) σ) (hk : nb < k) : Num (Go.World.iterAt W k s p) nb (k + 1) σ := by
  obtain ⟨v, nc, own, sz⟩ := h
  exact ⟨v, nc.on hk (Lib.below_iterAt (Below.refl _ _) (Nat.le_refl _) _ _), row_iter own (Nat.lt_succ_self k), by rw [Lib.iterAt_size]; exact sz⟩
/-- The bytes of a row as a string. -/
theorem row_str {w : World} {base : Nat} {l : List UInt8} {A : Option Addr} {c : Nat} (h : w.ownsRow base 5 1 (.slice A l.length c) l.length ((bI l).map (Value.int .u8))) (hl : l ≠ []) :
    (convert 43 9 (.slice A l.length c)).run Tryd.prog w = .ok (.string ⟨l.toArray⟩) w := by
  rcases h.2 with ⟨e, e2⟩ | ⟨g, cap, cur, e, hb, hh, c1, c2, c3, c4⟩
  · exact absurd (List.eq_nil_of_length_eq_zero e2) hl
  · cases e
    exact run_convert_bytes_back w 43 9 5 ⟨g, 0, none⟩ c l Tryd.underlying43 Tryd.underlying5 Tryd.underlying9 (fun j hj => by
      rw [Addr.add_lit, Nat.zero_add, h.cellAt j (by omega)]
      unfold bI; simp [hj])
/-- What holds at the head of each round. -/
structure PI (w : World) (s : ByteArray) (k : Nat) (σ : NSt) (W : World) : Prop where
  num : Num W (w.heap.size + 1) (w.heap.size + 1 + 1 + 1) σ
  res : BoxD W w.heap.size false ⟨#[]⟩ 0
  fr : ∀ j : Nat, W.frozen? ⟨w.heap.size, j, none⟩ = false
  it : W.heap[w.heap.size + 1 + 1]? = some (.stringIter s k)
  hb : Below w.heap.size w W
  ok : NOk k σ
  run : runS st0 s.data.toList = runS σ (s.data.toList.drop k)
theorem PI.start (w : World) (s : ByteArray) : PI w s 0 st0 (((w.alloc (.cells #[.bool false, .string ⟨#[]⟩, .int .i64 0] 23)).alloc (.cells #[.int .i64 0, .bool false, .slice none 0 0, .int .i64 0, .bool false, .int .i64 0, .int .i64 0] 45)).iter s 0) := by
  have z1 : (w.alloc (.cells #[.bool false, .string ⟨#[]⟩, .int .i64 0] 23)).heap.size = w.heap.size + 1 := by simp
  have z2 : ((w.alloc (.cells #[.bool false, .string ⟨#[]⟩, .int .i64 0] 23)).alloc (.cells #[.int .i64 0, .bool false, .slice none 0 0, .int .i64 0, .bool false, .int .i64 0, .int .i64 0] 45)).heap.size = w.heap.size + 1 + 1 := by simp
  have z3 : (((w.alloc (.cells #[.bool false, .string ⟨#[]⟩, .int .i64 0] 23)).alloc (.cells #[.int .i64 0, .bool false, .slice none 0 0, .int .i64 0, .bool false, .int .i64 0, .int .i64 0] 45)).iter s 0).heap.size = w.heap.size + 1 + 1 + 1 := by unfold World.iter; simp
  have b3 : Below (w.heap.size + 1 + 1) ((w.alloc (.cells #[.bool false, .string ⟨#[]⟩, .int .i64 0] 23)).alloc (.cells #[.int .i64 0, .bool false, .slice none 0 0, .int .i64 0, .bool false, .int .i64 0, .int .i64 0] 45)) (((w.alloc (.cells #[.bool false, .string ⟨#[]⟩, .int .i64 0] 23)).alloc (.cells #[.int .i64 0, .bool false, .slice none 0 0, .int .i64 0, .bool false, .int .i64 0, .int .i64 0] 45)).iter s 0) := by
    unfold World.iter; exact (Below.refl _ _).alloc (by rw [z2]; exact Nat.le_refl _) _
  have b2 : Below (w.heap.size + 1) (w.alloc (.cells #[.bool false, .string ⟨#[]⟩, .int .i64 0] 23)) ((w.alloc (.cells #[.bool false, .string ⟨#[]⟩, .int .i64 0] 23)).alloc (.cells #[.int .i64 0, .bool false, .slice none 0 0, .int .i64 0, .bool false, .int .i64 0, .int .i64 0] 45)) := (Below.refl _ _).alloc (by rw [z1]; exact Nat.le_refl _) _
  have nc0 : NC ((w.alloc (.cells #[.bool false, .string ⟨#[]⟩, .int .i64 0] 23)).alloc (.cells #[.int .i64 0, .bool false, .slice none 0 0, .int .i64 0, .bool false, .int .i64 0, .int .i64 0] 45)) (w.heap.size + 1) 0 false (.slice none 0 0) 0 false 0 0 := by
    rw [← z1]
    exact ⟨by rw [World.cell?_alloc_at _ _ _ _ rfl]; rfl, by rw [World.cell?_alloc_at _ _ _ _ rfl]; rfl, by rw [World.cell?_alloc_at _ _ _ _ rfl]; rfl, by rw [World.cell?_alloc_at _ _ _ _ rfl]; rfl, by rw [World.cell?_alloc_at _ _ _ _ rfl]; rfl, by rw [World.cell?_alloc_at _ _ _ _ rfl]; rfl, by rw [World.cell?_alloc_at _ _ _ _ rfl]; rfl, fun j => froz_newB _ _ _ j⟩
  refine ⟨⟨_, nc0.on (Nat.lt_succ_self _) b3, ⟨rfl, .inl ⟨rfl, rfl⟩⟩, by rw [z3]; exact Nat.le_refl _⟩, ((BoxD.new w false ⟨#[]⟩ 0).on b2 (Nat.lt_succ_self _)).on b3 (by omega), fun j => froz_onB (froz_onB (froz_newB w _ _ j) b2 (Nat.lt_succ_self _)) b3 (by show w.heap.size < _; omega), ?_, ?_, st0_ok, rfl⟩
  · rw [← z2]; exact World.iter_heap _ _ _
  · have b1 : Below w.heap.size w (w.alloc (.cells #[.bool false, .string ⟨#[]⟩, .int .i64 0] 23)) := (Below.refl _ _).alloc (Nat.le_refl _) _
    exact (b1.trans (b2.mono (Nat.le_succ _))).trans (b3.mono (by omega))
/-- A round: the iterator goes on, a rune is taken. -/
theorem PI.iter {w W : World} {s : ByteArray} {k p : Nat} {σ : NSt} (h : PI w s k σ W) : Num (Go.World.iterAt W (w.heap.size + 1 + 1) s p) (w.heap.size + 1) (w.heap.size + 1 + 1 + 1) σ ∧ BoxD (Go.World.iterAt W (w.heap.size + 1 + 1) s p) w.heap.size false ⟨#[]⟩ 0 ∧ (∀ j : Nat, (Go.World.iterAt W (w.heap.size + 1 + 1) s p).frozen? ⟨w.heap.size, j, none⟩ = false) ∧ (Go.World.iterAt W (w.heap.size + 1 + 1) s p).heap[w.heap.size + 1 + 1]? = some (.stringIter s p) ∧ Below w.heap.size w (Go.World.iterAt W (w.heap.size + 1 + 1) s p) := by
  have hbi : Below (w.heap.size + 1 + 1) W (Go.World.iterAt W (w.heap.size + 1 + 1) s p) := Lib.below_iterAt (Below.refl _ _) (Nat.le_refl _) _ _
  refine ⟨h.num.iter (Nat.lt_succ_self _), h.res.on hbi (by omega), fun j => froz_onB (h.fr j) hbi (by show w.heap.size < _; omega), Lib.iterAt_heap _ _ _ _ _ h.it, h.hb.trans (hbi.mono (by omega))⟩
set_option maxRecDepth 100000 in
set_option maxHeartbeats 8000000 in
theorem parse_any (s : ByteArray) (w : World) (hs : s.size ≤ 50000) :
    Calls Tryd.prog 22 #[.string s] w (MakePost (parV s.data.toList) w) := by
  have PS := Lib.hid (PI.start w s)
  have SZ := Lib.hid (bytes_size s)
  have BG := Lib.hid (fun k hk => B_get (s := s) (k := k) rfl hk)
  have E : Hid (∀ r, runS st0 s.data.toList = r → parV s.data.toList = match r with | none => (decV false [] 0, 3) | some σ => endV σ) := fun r h => by unfold parV; rw [h]
  obtain ⟨v, hv⟩ : ∃ v, parV s.data.toList = v := ⟨_, rfl⟩
  rw [hv] at E ⊢
  clear hv
  go_enter Tryd.func22, Tryd.ntmps22
  go_upto_block 0 with fail
  generalize hW0 : ((w.alloc (.cells #[.bool false, .string ⟨#[]⟩, .int .i64 0] 23)).alloc (.cells #[.int .i64 0, .bool false, .slice none 0 0, .int .i64 0, .bool false, .int .i64 0, .int .i64 0] 45)).iter s 0 = W0
  rw [hW0] at PS
  clear hW0
  go_wp2
  go_loopw [6] (fun rv wx => ∃ (k : Nat) (σ : NSt), k ≤ s.size ∧ Hid (PI w s k σ wx)) (fun _ wx => s.size - wx.iterPos (w.heap.size + 1 + 1))
  case atStart => exact ⟨0, st0, by omega, PS⟩
  case round =>
    clear PS
    obtain ⟨k, σ, hk, HP⟩ := hrel
    by_cases hp : k < s.size
    · by_cases ha : (s[k]'hp).toNat < 128
      · have bk := BG.out k hp
        obtain ⟨z, hz⟩ : ∃ z, B s.data.toList k = z := ⟨_, rfl⟩
        rw [hz] at bk
        have hnx0 := fun ty => Lib.run_next_ascii_at (P := Tryd.prog) wr (w.heap.size + 1 + 1) s k ty HP.out.it hp ha
        rw [bk] at hnx0
        obtain ⟨n1, n2, n3, n4, n5⟩ := HP.out.iter (p := k + 1)
        obtain ⟨W1, hW1⟩ : ∃ X, Go.World.iterAt wr (w.heap.size + 1 + 1) s (k + 1) = X := ⟨_, rfl⟩
        rw [hW1] at hnx0 n1 n2 n3 n4 n5
        have HN := Lib.hid (And.intro n2 (And.intro n3 (And.intro n4 n5)))
        have TK := Lib.hid (take_any (w.heap.size + 1) (w.heap.size + 1 + 1 + 1) k (by omega) σ z W1 (by omega) HP.out.ok n1)
        have RA := Lib.hid (runS_at (l := s.data.toList) (k := k) σ (by rw [← SZ.out]; exact hp))
        rw [hz] at RA
        have IP := Lib.hid (iterPos_of HP.out.it)
        have OK := Lib.hid (fun σ' (h : takeS σ z = some σ') => HP.out.ok.take h)
        have RU := Lib.hid (HP.out.run.trans RA.out)
        obtain ⟨r, hr⟩ : ∃ r, takeS σ z = r := ⟨_, rfl⟩
        rw [hr] at TK OK RU
        clear n1 n2 n3 n4 n5 hW1 hz bk ha RA HP hr
        go_wp2_with fail
        refine TK.out.mono ?_
        rintro e w2 hpost
        cases r with
        | some σ' =>
          obtain ⟨hkp, rfl, hN⟩ := hpost
          have ub := hkp.below (by omega)
          have P2 : Hid (PI w s (k + 1) σ' w2) := ⟨hN, HN.out.1.on ub (Nat.lt_succ_self _), fun j => froz_onB (HN.out.2.1 j) ub (Nat.lt_succ_self _), by rw [hkp.block _ (by omega) (by omega)]; exact HN.out.2.2.1, HN.out.2.2.2.trans (ub.mono (Nat.le_succ _)), OK.out _ rfl, RU.out⟩
          have ip2 := iterPos_of P2.out.it
          have ip1 := IP.out
          clear hkp hN ub
          go_wp2
          go_roundw
          case rel => exact ⟨k + 1, σ', by omega, P2⟩
          case measure => rw [ip2, ip1]; omega
        | none =>
          obtain ⟨hkp, rfl⟩ := hpost
          have ub := hkp.below (by omega)
          have A : Hid (v = (decV false [] 0, 3)) := E.out _ RU.out
          obtain ⟨c0, c1, c2⟩ := HN.out.1.on ub (Nat.lt_succ_self _)
          have fr := fun j => froz_onB (HN.out.2.1 j) ub (Nat.lt_succ_self _)
          have f0 := fr 0; have f1 := fr 1; have f2 := fr 2
          have HB := Lib.hid (HN.out.2.2.2.trans (ub.mono (Nat.le_succ _)))
          clear hkp ub fr
          go_wp2
          refine bodyPost_ret (v := .tuple #[.agg #[.bool false, .string ⟨#[]⟩, .int .i64 0], .int .i64 3]) (by simp [results, Tryd.results22, go_sem, *]) rfl ⟨by rw [A.out] <;> rfl, ?_⟩
          have hB := HB.out
          (repeat' first | exact Below.refl _ _ | assumption | refine Below.drew ?_ | refine Below.alloc ?_ ?_ _ | refine Below.setCell ?_ ?_ _ | refine below_drewN ?_ _ | (simp; done) | omega | (simp; omega))
      · have bk := BG.out k hp
        obtain ⟨z, hz⟩ : ∃ z, B s.data.toList k = z := ⟨_, rfl⟩
        rw [hz] at bk
        have z128 : 128 ≤ z := by omega
        have hnx0 := fun ty => Lib.run_next_any_at (P := Tryd.prog) wr (w.heap.size + 1 + 1) s k ty HP.out.it hp
        obtain ⟨d1, d2⟩ := decode_high s k hp (by omega)
        obtain ⟨q, hq⟩ : ∃ q, Utf8.decode s k = q := ⟨_, rfl⟩
        rw [hq] at hnx0 d1 d2
        obtain ⟨q1, q2⟩ := q
        dsimp only at hnx0 d1 d2
        obtain ⟨n1, n2, n3, n4, n5⟩ := HP.out.iter (p := k + q2)
        obtain ⟨W1, hW1⟩ : ∃ X, Go.World.iterAt wr (w.heap.size + 1 + 1) s (k + q2) = X := ⟨_, rfl⟩
        rw [hW1] at hnx0 n1 n2 n3 n4 n5
        have HN := Lib.hid (And.intro n2 (And.intro n3 (And.intro n4 n5)))
        obtain ⟨Q, hQ⟩ : ∃ Q : Int, (q1 : Int) = Q := ⟨_, rfl⟩
        rw [hQ] at hnx0
        have TK := take_any (w.heap.size + 1) (w.heap.size + 1 + 1 + 1) k (by omega) σ Q W1 (by omega) HP.out.ok n1
        rw [take_high σ Q (by omega)] at TK
        replace TK := Lib.hid TK
        have RA := runS_at (l := s.data.toList) (k := k) σ (by rw [← SZ.out]; exact hp)
        rw [hz, take_high σ z z128] at RA
        have A : Hid (v = (decV false [] 0, 3)) := E.out _ (HP.out.run.trans RA)
        clear n1 n2 n3 n4 n5 hW1 hz bk ha RA HP hq d1 d2 hQ z128
        go_wp2_with fail
        refine TK.out.mono ?_
        rintro e w2 ⟨hkp, rfl⟩
        have ub := hkp.below (by omega)
        obtain ⟨c0, c1, c2⟩ := HN.out.1.on ub (Nat.lt_succ_self _)
        have fr := fun j => froz_onB (HN.out.2.1 j) ub (Nat.lt_succ_self _)
        have f0 := fr 0; have f1 := fr 1; have f2 := fr 2
        have HB := Lib.hid (HN.out.2.2.2.trans (ub.mono (Nat.le_succ _)))
        clear hkp ub fr
        go_wp2
        refine bodyPost_ret (v := .tuple #[.agg #[.bool false, .string ⟨#[]⟩, .int .i64 0], .int .i64 3]) (by simp [results, Tryd.results22, go_sem, *]) rfl ⟨by rw [A.out] <;> rfl, ?_⟩
        have hB := HB.out
        (repeat' first | exact Below.refl _ _ | assumption | refine Below.drew ?_ | refine Below.alloc ?_ ?_ _ | refine Below.setCell ?_ ?_ _ | refine below_drewN ?_ _ | (simp; done) | omega | (simp; omega))
    · have hnx0 := fun ty => Lib.run_next_end_at (P := Tryd.prog) wr (w.heap.size + 1 + 1) s k ty HP.out.it hp
      have RU : runS st0 s.data.toList = some σ := by
        rw [HP.out.run, List.drop_eq_nil_of_le (by rw [← SZ.out]; omega)]; rfl
      have A : Hid (v = endV σ) := E.out _ RU
      have D1 := Lib.hid HP.out.num
      have D2 := Lib.hid (And.intro HP.out.res (And.intro HP.out.fr HP.out.hb))
      have ok := HP.out.ok
      clear HP RU E
      obtain ⟨st, ng, ds, pl, ne, ex, ec⟩ := σ
      obtain ⟨vv, nc, own, sz⟩ := D1.out
      obtain ⟨AA, kc, rfl⟩ := own_slice own
      obtain ⟨s0, s4, dl, p0, p1, cc0, cc9, ee0, ee9, _⟩ := ok
      dsimp only at s0 s4 dl p0 p1 cc0 cc9 ee0 ee9 nc own
      have OW := Lib.hid own
      have NX := Lib.hid nc
      obtain ⟨c0, c1, c2, c3, c4, c5, c6, f⟩ := nc
      have f5 := f 5
      obtain ⟨b0, b1, b2⟩ := D2.out.1
      have g0 := D2.out.2.1 0; have g1 := D2.out.2.1 1; have g2 := D2.out.2.1 2
      have E2 : Hid (v = if ds = [] ∨ (3 ≤ st ∧ ec = 0) then (decV false [] 0, 3) else makeV ng ds ((if ne = true then -ex else ex) - pl)) := A.out
      clear A own f sz
      by_cases h1 : ds = []
      · have A : Hid (v = (decV false [] 0, 3)) := by unfold Hid; rw [E2.out, if_pos (Or.inl h1)]
        have i1 : (ds.length : Int) = 0 := by rw [h1]; rfl
        clear E2 OW NX h1
        go_wp2
        refine bodyPost_ret (v := .tuple #[.agg #[.bool false, .string ⟨#[]⟩, .int .i64 0], .int .i64 3]) (by simp [results, Tryd.results22, go_sem, *]) rfl ⟨by rw [A.out] <;> rfl, ?_⟩
        have hB := D2.out.2.2
        (repeat' first | exact Below.refl _ _ | assumption | refine Below.drew ?_ | refine Below.alloc ?_ ?_ _ | refine Below.setCell ?_ ?_ _ | refine below_drewN ?_ _ | (simp; done) | omega | (simp; omega))
      · have i1 : ((ds.length : Int) == 0) = false := beq_eq_false_iff_ne.2 (fun e => h1 (List.eq_nil_of_length_eq_zero (by omega)))
        by_cases h2 : 3 ≤ st
        · have h2b : decide (3 ≤ st) = true := decide_eq_true h2
          by_cases h3 : ec = 0
          · have A : Hid (v = (decV false [] 0, 3)) := by unfold Hid; rw [E2.out, if_pos (Or.inr ⟨h2, h3⟩)]
            subst h3
            clear E2 OW NX h1
            go_wp2
            refine bodyPost_ret (v := .tuple #[.agg #[.bool false, .string ⟨#[]⟩, .int .i64 0], .int .i64 3]) (by simp [results, Tryd.results22, go_sem, *]) rfl ⟨by rw [A.out] <;> rfl, ?_⟩
            have hB := D2.out.2.2
            (repeat' first | exact Below.refl _ _ | assumption | refine Below.drew ?_ | refine Below.alloc ?_ ?_ _ | refine Below.setCell ?_ ?_ _ | refine below_drewN ?_ _ | (simp; done) | omega | (simp; omega))
          · have h3b : (ec == 0) = false := beq_eq_false_iff_ne.2 h3
            replace E2 := Lib.hid (E2.out.trans (if_neg (fun e => e.elim h1 (fun q => h3 q.2))))
            cases ne with
            | true =>
              have y1 : IntKind.i64.wrap (-ex) = -ex := by rw [IntKind.wrap_i64]; omega
              obtain ⟨X, hX⟩ : ∃ X, -ex = X := ⟨_, rfl⟩
              replace y1 := y1.trans hX
              have XB : -9999999999 ≤ X ∧ X ≤ 0 := by omega
              replace E2 := Lib.hid (E2.out.trans (congrArg (fun z => makeV ng ds (z - pl)) (if_pos rfl)))
              rw [hX] at E2
              clear hX
              obtain ⟨W2, hW2⟩ : ∃ W2, wr.setCell ⟨w.heap.size + 1, 5, none⟩ (.int .i64 X) = W2 := ⟨_, rfl⟩
              have N2 := NX.out.set5 X
              rw [hW2] at N2
              have HB2 := Lib.hid (D2.out.2.2.setCell (p := ⟨w.heap.size + 1, 5, none⟩) (Nat.le_succ _) (.int .i64 X))
              have OW2 := Lib.hid (row_setlow (b := w.heap.size + 1) (j := 5) (u := .int .i64 X) OW.out (by omega))
              have bz : Below (w.heap.size + 1) wr (wr.setCell ⟨w.heap.size + 1, 5, none⟩ (.int .i64 X)) := (Below.refl _ _).setCell (p := ⟨w.heap.size + 1, 5, none⟩) (Nat.le_refl _) _
              have BX2 := Lib.hid (D2.out.1.on bz (Nat.lt_succ_self _))
              have FR2 := Lib.hid (fun j => froz_onB (D2.out.2.1 j) bz (Nat.lt_succ_self _))
              have SZ2 : Hid (w.heap.size < W2.heap.size) := by unfold Hid; rw [← hW2]; obtain ⟨_, _, _, sz⟩ := D1.out; simp [World.setCell]; omega
              rw [hW2] at HB2 OW2 BX2 FR2
              clear bz
              obtain ⟨d0, d1, d2, d3, d4, d5, d6, _⟩ := N2
              have own2 := OW2.out
              have X0 : -9223372036854775808 ≤ X - pl ∧ X - pl < 9223372036854775808 := by omega
              have x1 : IntKind.i64.wrap (X - pl) = X - pl := by rw [IntKind.wrap_i64]; omega
              have MK := Lib.hid (fun W => make_any ng ⟨ds.toArray⟩ (X - pl) W (by rw [bytes_size]; show ds.length ≤ _; omega) X0.1 X0.2)
              obtain ⟨cb, cq, cy, er, hmp⟩ := makeV_parts ng (⟨ds.toArray⟩ : ByteArray).data.toList (X - pl)
              rw [hmp] at MK
              have A : Hid (v = (.agg #[.bool cb, .string cq, .int .i64 cy], er)) := E2.out.trans hmp
              clear E2 hmp X0
              have hcv := row_str own2 h1
              clear own2 h1
              go_wp2_with fail
              refine (MK.out _).mono ?_
              rintro e w3 ⟨rfl, hb3⟩
              have HB := Lib.hid (HB2.out.trans (hb3.mono (Nat.le_of_lt SZ2.out)))
              have b3 := BX2.out.on hb3 (SZ2.out)
              have fr3 := fun j => froz_onB (FR2.out j) hb3 (SZ2.out)
              clear b0 b1 b2 g0 g1 g2 c0 c1 c2 c3 c4 c5 c6 d0 d1 d2 d3 d4 d5 d6
              obtain ⟨b0, b1, b2⟩ := b3
              have g0 := fr3 0; have g1 := fr3 1; have g2 := fr3 2
              clear hb3 fr3
              go_wp2
              refine bodyPost_ret (v := .tuple #[.agg #[.bool cb, .string cq, .int .i64 cy], .int .i64 er]) (by simp [results, Tryd.results22, go_sem, *]) rfl ⟨by rw [A.out] <;> rfl, ?_⟩
              have hB := HB.out
              (repeat' first | exact Below.refl _ _ | assumption | refine Below.drew ?_ | refine Below.alloc ?_ ?_ _ | refine Below.setCell ?_ ?_ _ | refine below_drewN ?_ _ | (simp; done) | omega | (simp; omega))
            | false =>
              replace E2 := Lib.hid (E2.out.trans (congrArg (fun z => makeV ng ds (z - pl)) (if_neg (by simp))))
              have SZ2 : Hid (w.heap.size < wr.heap.size) := by unfold Hid; obtain ⟨_, _, _, sz⟩ := D1.out; omega
              have own2 := OW.out
              have X0 : -9223372036854775808 ≤ ex - pl ∧ ex - pl < 9223372036854775808 := by omega
              have x1 : IntKind.i64.wrap (ex - pl) = ex - pl := by rw [IntKind.wrap_i64]; omega
              have MK := Lib.hid (fun W => make_any ng ⟨ds.toArray⟩ (ex - pl) W (by rw [bytes_size]; show ds.length ≤ _; omega) X0.1 X0.2)
              obtain ⟨cb, cq, cy, er, hmp⟩ := makeV_parts ng (⟨ds.toArray⟩ : ByteArray).data.toList (ex - pl)
              rw [hmp] at MK
              have A : Hid (v = (.agg #[.bool cb, .string cq, .int .i64 cy], er)) := E2.out.trans hmp
              clear E2 hmp X0
              have hcv := row_str own2 h1
              clear own2 h1
              go_wp2_with fail
              refine (MK.out _).mono ?_
              rintro e w3 ⟨rfl, hb3⟩
              have HB := Lib.hid (D2.out.2.2.trans (hb3.mono (Nat.le_of_lt SZ2.out)))
              have b3 := D2.out.1.on hb3 (SZ2.out)
              have fr3 := fun j => froz_onB (D2.out.2.1 j) hb3 (SZ2.out)
              clear b0 b1 b2 g0 g1 g2 c0 c1 c2 c3 c4 c5 c6
              obtain ⟨b0, b1, b2⟩ := b3
              have g0 := fr3 0; have g1 := fr3 1; have g2 := fr3 2
              clear hb3 fr3
              go_wp2
              refine bodyPost_ret (v := .tuple #[.agg #[.bool cb, .string cq, .int .i64 cy], .int .i64 er]) (by simp [results, Tryd.results22, go_sem, *]) rfl ⟨by rw [A.out] <;> rfl, ?_⟩
              have hB := HB.out
              (repeat' first | exact Below.refl _ _ | assumption | refine Below.drew ?_ | refine Below.alloc ?_ ?_ _ | refine Below.setCell ?_ ?_ _ | refine below_drewN ?_ _ | (simp; done) | omega | (simp; omega))
        · have h2b : decide (3 ≤ st) = false := decide_eq_false h2
          replace E2 := Lib.hid (E2.out.trans (if_neg (fun e => e.elim h1 (fun q => h2 q.1))))
          cases ne with
          | true =>
            have y1 : IntKind.i64.wrap (-ex) = -ex := by rw [IntKind.wrap_i64]; omega
            obtain ⟨X, hX⟩ : ∃ X, -ex = X := ⟨_, rfl⟩
            replace y1 := y1.trans hX
            have XB : -9999999999 ≤ X ∧ X ≤ 0 := by omega
            replace E2 := Lib.hid (E2.out.trans (congrArg (fun z => makeV ng ds (z - pl)) (if_pos rfl)))
            rw [hX] at E2
            clear hX
            obtain ⟨W2, hW2⟩ : ∃ W2, wr.setCell ⟨w.heap.size + 1, 5, none⟩ (.int .i64 X) = W2 := ⟨_, rfl⟩
            have N2 := NX.out.set5 X
            rw [hW2] at N2
            have HB2 := Lib.hid (D2.out.2.2.setCell (p := ⟨w.heap.size + 1, 5, none⟩) (Nat.le_succ _) (.int .i64 X))
            have OW2 := Lib.hid (row_setlow (b := w.heap.size + 1) (j := 5) (u := .int .i64 X) OW.out (by omega))
            have bz : Below (w.heap.size + 1) wr (wr.setCell ⟨w.heap.size + 1, 5, none⟩ (.int .i64 X)) := (Below.refl _ _).setCell (p := ⟨w.heap.size + 1, 5, none⟩) (Nat.le_refl _) _
            have BX2 := Lib.hid (D2.out.1.on bz (Nat.lt_succ_self _))
            have FR2 := Lib.hid (fun j => froz_onB (D2.out.2.1 j) bz (Nat.lt_succ_self _))
            have SZ2 : Hid (w.heap.size < W2.heap.size) := by unfold Hid; rw [← hW2]; obtain ⟨_, _, _, sz⟩ := D1.out; simp [World.setCell]; omega
            rw [hW2] at HB2 OW2 BX2 FR2
            clear bz
            obtain ⟨d0, d1, d2, d3, d4, d5, d6, _⟩ := N2
            have own2 := OW2.out
            have X0 : -9223372036854775808 ≤ X - pl ∧ X - pl < 9223372036854775808 := by omega
            have x1 : IntKind.i64.wrap (X - pl) = X - pl := by rw [IntKind.wrap_i64]; omega
            have MK := Lib.hid (fun W => make_any ng ⟨ds.toArray⟩ (X - pl) W (by rw [bytes_size]; show ds.length ≤ _; omega) X0.1 X0.2)
            obtain ⟨cb, cq, cy, er, hmp⟩ := makeV_parts ng (⟨ds.toArray⟩ : ByteArray).data.toList (X - pl)
            rw [hmp] at MK
            have A : Hid (v = (.agg #[.bool cb, .string cq, .int .i64 cy], er)) := E2.out.trans hmp
            clear E2 hmp X0
            have hcv := row_str own2 h1
            clear own2 h1
            go_wp2_with fail
            refine (MK.out _).mono ?_
            rintro e w3 ⟨rfl, hb3⟩
            have HB := Lib.hid (HB2.out.trans (hb3.mono (Nat.le_of_lt SZ2.out)))
            have b3 := BX2.out.on hb3 (SZ2.out)
            have fr3 := fun j => froz_onB (FR2.out j) hb3 (SZ2.out)
            clear b0 b1 b2 g0 g1 g2 c0 c1 c2 c3 c4 c5 c6 d0 d1 d2 d3 d4 d5 d6
            obtain ⟨b0, b1, b2⟩ := b3
            have g0 := fr3 0; have g1 := fr3 1; have g2 := fr3 2
            clear hb3 fr3
            go_wp2
            refine bodyPost_ret (v := .tuple #[.agg #[.bool cb, .string cq, .int .i64 cy], .int .i64 er]) (by simp [results, Tryd.results22, go_sem, *]) rfl ⟨by rw [A.out] <;> rfl, ?_⟩
            have hB := HB.out
            (repeat' first | exact Below.refl _ _ | assumption | refine Below.drew ?_ | refine Below.alloc ?_ ?_ _ | refine Below.setCell ?_ ?_ _ | refine below_drewN ?_ _ | (simp; done) | omega | (simp; omega))
          | false =>
            replace E2 := Lib.hid (E2.out.trans (congrArg (fun z => makeV ng ds (z - pl)) (if_neg (by simp))))
            have SZ2 : Hid (w.heap.size < wr.heap.size) := by unfold Hid; obtain ⟨_, _, _, sz⟩ := D1.out; omega
            have own2 := OW.out
            have X0 : -9223372036854775808 ≤ ex - pl ∧ ex - pl < 9223372036854775808 := by omega
            have x1 : IntKind.i64.wrap (ex - pl) = ex - pl := by rw [IntKind.wrap_i64]; omega
            have MK := Lib.hid (fun W => make_any ng ⟨ds.toArray⟩ (ex - pl) W (by rw [bytes_size]; show ds.length ≤ _; omega) X0.1 X0.2)
            obtain ⟨cb, cq, cy, er, hmp⟩ := makeV_parts ng (⟨ds.toArray⟩ : ByteArray).data.toList (ex - pl)
            rw [hmp] at MK
            have A : Hid (v = (.agg #[.bool cb, .string cq, .int .i64 cy], er)) := E2.out.trans hmp
            clear E2 hmp X0
            have hcv := row_str own2 h1
            clear own2 h1
            go_wp2_with fail
            refine (MK.out _).mono ?_
            rintro e w3 ⟨rfl, hb3⟩
            have HB := Lib.hid (D2.out.2.2.trans (hb3.mono (Nat.le_of_lt SZ2.out)))
            have b3 := D2.out.1.on hb3 (SZ2.out)
            have fr3 := fun j => froz_onB (D2.out.2.1 j) hb3 (SZ2.out)
            clear b0 b1 b2 g0 g1 g2 c0 c1 c2 c3 c4 c5 c6
            obtain ⟨b0, b1, b2⟩ := b3
            have g0 := fr3 0; have g1 := fr3 1; have g2 := fr3 2
            clear hb3 fr3
            go_wp2
            refine bodyPost_ret (v := .tuple #[.agg #[.bool cb, .string cq, .int .i64 cy], .int .i64 er]) (by simp [results, Tryd.results22, go_sem, *]) rfl ⟨by rw [A.out] <;> rfl, ?_⟩
            have hB := HB.out
            (repeat' first | exact Below.refl _ _ | assumption | refine Below.drew ?_ | refine Below.alloc ?_ ?_ _ | refine Below.setCell ?_ ?_ _ | refine below_drewN ?_ _ | (simp; done) | omega | (simp; omega))
end Go.Proofs.YtgjhpcmpgkfnkaaDoor
