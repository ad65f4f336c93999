/-
  Package decimal: upward, oneMore: walked.
-/
import Derived.Test.YtgjhpcmpgkfnkaaDoorA13
import Derived.Lib.Repeat
namespace Go.Proofs.YtgjhpcmpgkfnkaaDoor
open Go.RowKit Go.Shelf

/-- The last digit is odd. -/
def oddL (k : List UInt8) : Bool := decide (k ≠ []) && decide (B k (k.length - 1) % 2 = 1)
/-- Whether it is rounded up. -/
def upV (b : Bool) (k r : List UInt8) (way : Int) : Bool :=
  if way = 3 then true else if way = 4 then b else if way = 5 then !b else if way = 2 then false
  else decide (0 < Lib.compareBytes r [53]) || (decide (Lib.compareBytes r [53] = 0) && (decide (way = 1) || oddL k))
/-- The digits of the next number. -/
def oneMoreV (k : List UInt8) : List UInt8 :=
  if Lib.trimRightB k 57 = [] then 49 :: List.replicate (k.length - (Lib.trimRightB k 57).length) 48
  else (Lib.trimRightB k 57).take ((Lib.trimRightB k 57).length - 1) ++ [UInt8.ofNat (B (Lib.trimRightB k 57) ((Lib.trimRightB k 57).length - 1) + 1).toNat] ++ List.replicate (k.length - (Lib.trimRightB k 57).length) 48
def StrPost (l : List UInt8) (w : World) (e : Ending) (w' : World) : Prop := ∃ S : ByteArray, e = .returned (.string S) ∧ S.data.toList = l ∧ Below w.heap.size w w'
theorem below_drewN {B : Nat} {a w : World} (h : Below B a w) (n : Nat) : Below B a (w.drewN n) := h.trans ⟨rfl, rfl, rfl, Nat.le_refl _, fun _ _ => rfl⟩
theorem enc_at (z : Int) (h0 : 30 ≤ z) (h1 : z < 100) : Utf8.encode z = ⟨#[UInt8.ofNat z.toNat]⟩ := by
  obtain ⟨n, rfl⟩ : ∃ n : Nat, z = (n : Int) := ⟨z.toNat, by omega⟩
  have key : ∀ k : Nat, k < 70 → Utf8.encode (((30 + k : Nat) : Int)) = ⟨#[UInt8.ofNat (((30 + k : Nat) : Int)).toNat]⟩ := by decide +kernel
  have := key (n - 30) (by omega)
  rw [show 30 + (n - 30) = n by omega] at this
  exact this
theorem enc_of (z : Int) (h0 : 30 ≤ z) (h1 : z < 100) : ∃ E : ByteArray, Utf8.encode z = E ∧ E.size = 1 ∧ E.data.toList = [UInt8.ofNat z.toNat] :=
  ⟨_, enc_at z h0 h1, rfl, rfl⟩
theorem app_of (a b : ByteArray) (la lb : List UInt8) (ha : a.data.toList = la) (hb : b.data.toList = lb) : ∃ S : ByteArray, a ++ b = S ∧ S.data.toList = la ++ lb := by
  refine ⟨_, rfl, ?_⟩
  rw [ByteArray.data_append, Array.toList_append, ha, hb]
theorem rep48 : ∀ c : Nat, Lib.repeatL [48] c = List.replicate c 48
  | 0 => rfl
  | c + 1 => by rw [Lib.repeatL, rep48 c]; rfl
theorem repeat_any (c : Nat) (w : World) (hc : c ≤ 1000000) : Calls Tryd.prog 53 #[.string ⟨#[48]⟩, .int .i64 (c : Int)] w (StrPost (List.replicate c 48) w) := by
  refine (Tryd.strings_Repeat ⟨#[48]⟩ c w (by omega) (by show 1 * c ≤ _; omega)).mono ?_
  rintro e w' ⟨rfl, hb⟩
  exact ⟨_, rfl, rep48 c, hb⟩
theorem trimR_mem {l : List UInt8} {c x : UInt8} (h : x ∈ Lib.trimRightB l c) : x ∈ l := by
  unfold Lib.trimRightB at h
  rw [List.mem_reverse] at h
  have := (List.dropWhile_suffix (· == c) (l := l.reverse)).subset h
  rwa [List.mem_reverse] at this
theorem trim57_any (s : ByteArray) (w : World) (hs : s.size ≤ 1000000) : Calls Tryd.prog 29 #[.string s, .string ⟨#[57]⟩] w fun e w' => e = .returned (.string ⟨(Lib.trimRightB s.data.toList 57).toArray⟩) ∧ w = w' :=
  (Tryd.strings_TrimRight_one s 57 (by decide) w (by omega)).mono (fun _ _ h => ⟨h.1, h.2.symm⟩)
set_option maxRecDepth 100000 in
set_option maxHeartbeats 8000000 in
theorem oneMore_any (s : ByteArray) (w : World) (hs : s.size ≤ 1000000) (hd : s.data.toList.all dgB = true) :
    Calls Tryd.prog 51 #[.string s] w (StrPost (oneMoreV s.data.toList) w) := by
  have SZ := bytes_size s
  obtain ⟨n, hn⟩ : ∃ t : ByteArray, (⟨(Lib.trimRightB s.data.toList 57).toArray⟩ : ByteArray) = t := ⟨_, rfl⟩
  have dn : n.data.toList = Lib.trimRightB s.data.toList 57 := by rw [← hn]
  have zn : n.size = (Lib.trimRightB s.data.toList 57).length := by rw [bytes_size, dn]
  have le : n.size ≤ s.size := by rw [zn, SZ]; exact trimR_le _ _
  have TR := Lib.hid (fun W => trim57_any s W hs)
  rw [hn] at TR
  have BG := Lib.hid (fun k hk => B_get (s := n) (k := k) dn hk)
  have BD : ∀ k : Nat, k < n.size → 48 ≤ B (Lib.trimRightB s.data.toList 57) k ∧ B (Lib.trimRightB s.data.toList 57) k ≤ 57 := fun k hk => by
    refine dgB_at ?_ (by rw [← zn]; exact hk)
    rw [List.all_eq_true]
    exact fun x hx => (List.all_eq_true.1 hd) x (trimR_mem hx)
  have EM : n.toList.isEmpty = (Lib.trimRightB s.data.toList 57).isEmpty := by rw [bytes_empty, dn]
  have E : Hid (oneMoreV s.data.toList = if Lib.trimRightB s.data.toList 57 = [] then 49 :: List.replicate (s.size - n.size) 48 else (Lib.trimRightB s.data.toList 57).take (n.size - 1) ++ [UInt8.ofNat (B (Lib.trimRightB s.data.toList 57) (n.size - 1) + 1).toNat] ++ List.replicate (s.size - n.size) 48) := by
    unfold Hid oneMoreV; rw [← zn, ← SZ]
  obtain ⟨c, hc⟩ : ∃ c, s.size - n.size = c := ⟨_, rfl⟩
  have RP := Lib.hid (fun W => repeat_any c W (by omega))
  have u1 : IntKind.i64.wrap ((s.size : Int) - (n.size : Int)) = (c : Int) := by rw [IntKind.wrap_i64]; omega
  have cs : c ≤ 1000000 := by omega
  rw [hc] at E
  obtain ⟨m, hm⟩ : ∃ m, Lib.trimRightB s.data.toList 57 = m := ⟨_, rfl⟩
  rw [hm] at E EM BG BD zn dn
  obtain ⟨v, hv⟩ : ∃ v, oneMoreV s.data.toList = v := ⟨_, rfl⟩
  rw [hv] at E ⊢
  clear hv hm hd hn hc SZ
  by_cases h1 : m = []
  · have e1 : n.toList.isEmpty = true := by rw [EM, h1]; rfl
    have A : Hid (v = 49 :: List.replicate c 48) := by unfold Hid; rw [E.out, if_pos h1]
    clear E EM BG BD zn dn h1
    go_enter Tryd.func51, Tryd.ntmps51
    go_wp2_with fail
    refine (TR.out _).mono ?_
    rintro e w2 ⟨rfl, rfl⟩
    go_wp2_with fail
    refine (RP.out _).mono ?_
    rintro e w3 ⟨Z, rfl, hZ, hb⟩
    have HB := Lib.hid hb
    have hz : Z.size ≤ 1000000 := by rw [bytes_size, hZ, List.length_replicate]; exact cs
    have HZ := Lib.hid hZ
    clear hb hZ
    obtain ⟨F, hF, lF⟩ := app_of ⟨#[49]⟩ Z [49] _ rfl HZ.out
    have LF := Lib.hid lF
    clear lF
    have hov : ¬ 9223372036854775807 < 1 + Z.size := by omega
    go_wp2
    go_ret
    exact ⟨_, rfl, by rw [LF.out, A.out]; rfl, HB.out⟩
  · have e1 : n.toList.isEmpty = false := by rw [EM]; exact List.isEmpty_eq_false_iff.2 h1
    have n0 : n.size ≠ 0 := fun e => h1 (List.eq_nil_of_length_eq_zero (by omega))
    obtain ⟨k, hk⟩ : ∃ k, n.size = k + 1 := ⟨n.size - 1, by omega⟩
    have A : Hid (v = m.take k ++ [UInt8.ofNat (B m k + 1).toNat] ++ List.replicate c 48) := by unfold Hid; rw [E.out, if_neg h1, show n.size - 1 = k by omega]
    have kn : k < n.size := by omega
    have bk := BG.out k kn
    have br := BD k kn
    obtain ⟨z, hz⟩ : ∃ z, B m k = z := ⟨_, rfl⟩
    rw [hz] at bk br A
    have u2 : IntKind.i64.wrap ((n.size : Int) - 1) = (k : Int) := by rw [IntKind.wrap_i64]; omega
    have u3 : IntKind.u8.wrap (z + 1) = z + 1 := by rw [IntKind.wrap_u8]; omega
    have k0 : (0 : Int) ≤ (k : Int) := by omega
    have k1 : (k : Int) < (n.size : Int) := by omega
    have k2 : (k : Int) ≤ (n.size : Int) := by omega
    obtain ⟨E2, hE2, zE2, lE2⟩ := enc_of (z + 1) (by omega) (by omega)
    have xn : (n.extract 0 k).data.toList = m.take k := by rw [Lib.extract_upto, dn]
    obtain ⟨S1, hS1, lS1⟩ := app_of (n.extract 0 k) E2 _ _ xn lE2
    have zS1 : S1.size = k + 1 := by
      rw [bytes_size, lS1, List.length_append, List.length_take, ← zn, List.length_singleton]; omega
    have zx : (n.extract 0 k).size = k := by rw [bytes_size, xn, List.length_take, ← zn]; omega
    have LS := Lib.hid lS1
    have HK := Lib.hid hk
    have ho1 : ¬ 9223372036854775807 < k + 1 := by omega
    have kk : k ≤ 1000000 := by omega
    clear E EM BG BD zn dn h1 hz xn lS1 hk lE2 br n0
    go_enter Tryd.func51, Tryd.ntmps51
    go_wp2_with fail
    refine (TR.out _).mono ?_
    rintro e w2 ⟨rfl, rfl⟩
    go_wp2_with fail
    refine (RP.out _).mono ?_
    rintro e w3 ⟨Z, rfl, hZ, hb⟩
    have HB := Lib.hid hb
    have hz : Z.size ≤ 1000000 := by rw [bytes_size, hZ, List.length_replicate]; exact cs
    have HZ := Lib.hid hZ
    clear hb hZ
    obtain ⟨F, hF, lF⟩ := app_of S1 Z _ _ LS.out HZ.out
    have LF := Lib.hid lF
    clear lF
    have hov : ¬ 9223372036854775807 < k + 1 + Z.size := by omega
    go_wp2
    go_quiet (fail)
    go_wp2
    go_ret
    exact ⟨_, rfl, by rw [LF.out, A.out], below_drewN HB.out _⟩
set_option maxRecDepth 100000 in
set_option maxHeartbeats 8000000 in
theorem upward_any (b : Bool) (k r : ByteArray) (way : Int) (w : World) (hk : k.size ≤ 1000000) (w0 : 0 ≤ way) (w5 : way ≤ 5) :
    Calls Tryd.prog 50 #[.bool b, .string k, .string r, .int .i64 way] w fun e w' => e = .returned (.bool (upV b k.data.toList r.data.toList way)) ∧ w = w' := by
  have CM := Lib.hid (fun W => Tryd.strings_Compare r ⟨#[53]⟩ W)
  have KZ := bytes_size k
  have EM : k.toList.isEmpty = k.data.toList.isEmpty := bytes_empty k
  obtain ⟨l, hl⟩ : ∃ l, k.data.toList = l := ⟨_, rfl⟩
  have BG := Lib.hid (fun j hj => B_get (s := k) (k := j) hl hj)
  rw [hl] at KZ EM ⊢
  have E : Hid (upV b l r.data.toList way = if way = 3 then true else if way = 4 then b else if way = 5 then !b else if way = 2 then false
  else decide (0 < Lib.compareBytes r.data.toList [53]) || (decide (Lib.compareBytes r.data.toList [53] = 0) && (decide (way = 1) || oddL l))) := rfl
  have HR := compareBytes_range r.data.toList [53]
  rw [show (⟨#[53]⟩ : ByteArray).data.toList = [53] from rfl] at CM
  obtain ⟨h, hh⟩ : ∃ h, Lib.compareBytes r.data.toList [53] = h := ⟨_, rfl⟩
  rw [hh] at CM E HR
  obtain ⟨v, hv⟩ : ∃ v, upV b l r.data.toList way = v := ⟨_, rfl⟩
  rw [hv] at E ⊢
  clear hv hh hl
  have hw : way = 0 ∨ way = 1 ∨ way = 2 ∨ way = 3 ∨ way = 4 ∨ way = 5 := by omega
  clear w0 w5
  rcases hw with rfl | rfl | rfl | rfl | rfl | rfl
  · by_cases h1 : l = []
    · have e1 : k.toList.isEmpty = true := by rw [EM, h1]; rfl
      have O : oddL l = false := by rw [h1]; rfl
      clear h1 EM KZ BG
      rcases HR with rfl | rfl | rfl
      · have A : Hid (v = false) := by unfold Hid; rw [E.out]; rfl
        clear E O
        go_enter Tryd.func50, Tryd.ntmps50
        go_wp2_with fail
        refine (CM.out _).mono ?_
        rintro e w2 ⟨rfl, rfl⟩
        go_wp2
        go_ret
        exact ⟨by rw [A.out]; rfl, rfl⟩
      · have A : Hid (v = false) := by unfold Hid; rw [E.out, O]; rfl
        clear E O
        go_enter Tryd.func50, Tryd.ntmps50
        go_wp2_with fail
        refine (CM.out _).mono ?_
        rintro e w2 ⟨rfl, rfl⟩
        go_wp2
        go_ret
        exact ⟨by rw [A.out]; rfl, rfl⟩
      · have A : Hid (v = true) := by unfold Hid; rw [E.out]; rfl
        clear E O
        go_enter Tryd.func50, Tryd.ntmps50
        go_wp2_with fail
        refine (CM.out _).mono ?_
        rintro e w2 ⟨rfl, rfl⟩
        go_wp2
        go_ret
        exact ⟨by rw [A.out]; rfl, rfl⟩
    · have e1 : k.toList.isEmpty = false := by rw [EM]; exact List.isEmpty_eq_false_iff.2 h1
      have n0 : k.size ≠ 0 := fun e => h1 (List.eq_nil_of_length_eq_zero (by omega))
      obtain ⟨j, hj⟩ : ∃ j, k.size = j + 1 := ⟨k.size - 1, by omega⟩
      have kn : j < k.size := by omega
      have bk := BG.out j kn
      have br := B_range l j
      have u2 : IntKind.i64.wrap ((k.size : Int) - 1) = (j : Int) := by rw [IntKind.wrap_i64]; omega
      have j0 : (0 : Int) ≤ (j : Int) := by omega
      have j1 : (j : Int) < (k.size : Int) := by omega
      have OO : Hid (oddL l = decide (B l j % 2 = 1)) := by
        unfold Hid oddL; rw [decide_eq_true h1, show l.length - 1 = j by omega, Bool.true_and]
      obtain ⟨z, hz⟩ : ∃ z, B l j = z := ⟨_, rfl⟩
      rw [hz] at bk br OO
      have t1 : z.tmod 2 = z % 2 := Int.tmod_eq_emod_of_nonneg br.1
      have HK := Lib.hid hj
      clear h1 EM KZ BG n0 hj hz
      by_cases h2 : z % 2 = 1
      · have O : oddL l = true := by rw [OO.out]; exact decide_eq_true h2
        rcases HR with rfl | rfl | rfl
        · have A : Hid (v = false) := by unfold Hid; rw [E.out]; rfl
          clear E O
          go_enter Tryd.func50, Tryd.ntmps50
          go_wp2_with fail
          refine (CM.out _).mono ?_
          rintro e w2 ⟨rfl, rfl⟩
          go_wp2
          go_ret
          exact ⟨by rw [A.out]; rfl, rfl⟩
        · have A : Hid (v = true) := by unfold Hid; rw [E.out, O]; rfl
          clear E O
          go_enter Tryd.func50, Tryd.ntmps50
          go_wp2_with fail
          refine (CM.out _).mono ?_
          rintro e w2 ⟨rfl, rfl⟩
          go_wp2
          go_ret
          exact ⟨by rw [A.out]; rfl, rfl⟩
        · have A : Hid (v = true) := by unfold Hid; rw [E.out]; rfl
          clear E O
          go_enter Tryd.func50, Tryd.ntmps50
          go_wp2_with fail
          refine (CM.out _).mono ?_
          rintro e w2 ⟨rfl, rfl⟩
          go_wp2
          go_ret
          exact ⟨by rw [A.out]; rfl, rfl⟩
      · have O : oddL l = false := by rw [OO.out]; exact decide_eq_false h2
        have h2b : (z % 2 == 1) = false := by rw [beq_eq_false_iff_ne]; exact h2
        rcases HR with rfl | rfl | rfl
        · have A : Hid (v = false) := by unfold Hid; rw [E.out]; rfl
          clear E O
          go_enter Tryd.func50, Tryd.ntmps50
          go_wp2_with fail
          refine (CM.out _).mono ?_
          rintro e w2 ⟨rfl, rfl⟩
          go_wp2
          go_ret
          exact ⟨by rw [A.out]; rfl, rfl⟩
        · have A : Hid (v = false) := by unfold Hid; rw [E.out, O]; rfl
          clear E O
          go_enter Tryd.func50, Tryd.ntmps50
          go_wp2_with fail
          refine (CM.out _).mono ?_
          rintro e w2 ⟨rfl, rfl⟩
          go_wp2
          go_ret
          exact ⟨by rw [A.out]; rfl, rfl⟩
        · have A : Hid (v = true) := by unfold Hid; rw [E.out]; rfl
          clear E O
          go_enter Tryd.func50, Tryd.ntmps50
          go_wp2_with fail
          refine (CM.out _).mono ?_
          rintro e w2 ⟨rfl, rfl⟩
          go_wp2
          go_ret
          exact ⟨by rw [A.out]; rfl, rfl⟩
  · by_cases h1 : l = []
    · have e1 : k.toList.isEmpty = true := by rw [EM, h1]; rfl
      have O : oddL l = false := by rw [h1]; rfl
      clear h1 EM KZ BG
      rcases HR with rfl | rfl | rfl
      · have A : Hid (v = false) := by unfold Hid; rw [E.out]; rfl
        clear E O
        go_enter Tryd.func50, Tryd.ntmps50
        go_wp2_with fail
        refine (CM.out _).mono ?_
        rintro e w2 ⟨rfl, rfl⟩
        go_wp2
        go_ret
        exact ⟨by rw [A.out]; rfl, rfl⟩
      · have A : Hid (v = true) := by unfold Hid; rw [E.out]; rfl
        clear E O
        go_enter Tryd.func50, Tryd.ntmps50
        go_wp2_with fail
        refine (CM.out _).mono ?_
        rintro e w2 ⟨rfl, rfl⟩
        go_wp2
        go_ret
        exact ⟨by rw [A.out]; rfl, rfl⟩
      · have A : Hid (v = true) := by unfold Hid; rw [E.out]; rfl
        clear E O
        go_enter Tryd.func50, Tryd.ntmps50
        go_wp2_with fail
        refine (CM.out _).mono ?_
        rintro e w2 ⟨rfl, rfl⟩
        go_wp2
        go_ret
        exact ⟨by rw [A.out]; rfl, rfl⟩
    · have e1 : k.toList.isEmpty = false := by rw [EM]; exact List.isEmpty_eq_false_iff.2 h1
      have n0 : k.size ≠ 0 := fun e => h1 (List.eq_nil_of_length_eq_zero (by omega))
      obtain ⟨j, hj⟩ : ∃ j, k.size = j + 1 := ⟨k.size - 1, by omega⟩
      have kn : j < k.size := by omega
      have bk := BG.out j kn
      have br := B_range l j
      have u2 : IntKind.i64.wrap ((k.size : Int) - 1) = (j : Int) := by rw [IntKind.wrap_i64]; omega
      have j0 : (0 : Int) ≤ (j : Int) := by omega
      have j1 : (j : Int) < (k.size : Int) := by omega
      have OO : Hid (oddL l = decide (B l j % 2 = 1)) := by
        unfold Hid oddL; rw [decide_eq_true h1, show l.length - 1 = j by omega, Bool.true_and]
      obtain ⟨z, hz⟩ : ∃ z, B l j = z := ⟨_, rfl⟩
      rw [hz] at bk br OO
      have t1 : z.tmod 2 = z % 2 := Int.tmod_eq_emod_of_nonneg br.1
      have HK := Lib.hid hj
      clear h1 EM KZ BG n0 hj hz
      by_cases h2 : z % 2 = 1
      · have O : oddL l = true := by rw [OO.out]; exact decide_eq_true h2
        rcases HR with rfl | rfl | rfl
        · have A : Hid (v = false) := by unfold Hid; rw [E.out]; rfl
          clear E O
          go_enter Tryd.func50, Tryd.ntmps50
          go_wp2_with fail
          refine (CM.out _).mono ?_
          rintro e w2 ⟨rfl, rfl⟩
          go_wp2
          go_ret
          exact ⟨by rw [A.out]; rfl, rfl⟩
        · have A : Hid (v = true) := by unfold Hid; rw [E.out]; rfl
          clear E O
          go_enter Tryd.func50, Tryd.ntmps50
          go_wp2_with fail
          refine (CM.out _).mono ?_
          rintro e w2 ⟨rfl, rfl⟩
          go_wp2
          go_ret
          exact ⟨by rw [A.out]; rfl, rfl⟩
        · have A : Hid (v = true) := by unfold Hid; rw [E.out]; rfl
          clear E O
          go_enter Tryd.func50, Tryd.ntmps50
          go_wp2_with fail
          refine (CM.out _).mono ?_
          rintro e w2 ⟨rfl, rfl⟩
          go_wp2
          go_ret
          exact ⟨by rw [A.out]; rfl, rfl⟩
      · have O : oddL l = false := by rw [OO.out]; exact decide_eq_false h2
        have h2b : (z % 2 == 1) = false := by rw [beq_eq_false_iff_ne]; exact h2
        rcases HR with rfl | rfl | rfl
        · have A : Hid (v = false) := by unfold Hid; rw [E.out]; rfl
          clear E O
          go_enter Tryd.func50, Tryd.ntmps50
          go_wp2_with fail
          refine (CM.out _).mono ?_
          rintro e w2 ⟨rfl, rfl⟩
          go_wp2
          go_ret
          exact ⟨by rw [A.out]; rfl, rfl⟩
        · have A : Hid (v = true) := by unfold Hid; rw [E.out]; rfl
          clear E O
          go_enter Tryd.func50, Tryd.ntmps50
          go_wp2_with fail
          refine (CM.out _).mono ?_
          rintro e w2 ⟨rfl, rfl⟩
          go_wp2
          go_ret
          exact ⟨by rw [A.out]; rfl, rfl⟩
        · have A : Hid (v = true) := by unfold Hid; rw [E.out]; rfl
          clear E O
          go_enter Tryd.func50, Tryd.ntmps50
          go_wp2_with fail
          refine (CM.out _).mono ?_
          rintro e w2 ⟨rfl, rfl⟩
          go_wp2
          go_ret
          exact ⟨by rw [A.out]; rfl, rfl⟩
  · have A : Hid (v = false) := E.out
    clear E CM HR KZ EM BG
    go_enter Tryd.func50, Tryd.ntmps50
    go_wp2
    go_ret
    exact ⟨by rw [A.out]; rfl, rfl⟩
  · have A : Hid (v = true) := E.out
    clear E CM HR KZ EM BG
    go_enter Tryd.func50, Tryd.ntmps50
    go_wp2
    go_ret
    exact ⟨by rw [A.out]; rfl, rfl⟩
  · have A : Hid (v = b) := E.out
    clear E CM HR KZ EM BG
    go_enter Tryd.func50, Tryd.ntmps50
    go_wp2
    go_ret
    exact ⟨by rw [A.out]; rfl, rfl⟩
  · have A : Hid (v = !b) := E.out
    clear E CM HR KZ EM BG
    go_enter Tryd.func50, Tryd.ntmps50
    go_wp2
    go_ret
    exact ⟨by rw [A.out]; rfl, rfl⟩
end Go.Proofs.YtgjhpcmpgkfnkaaDoor
