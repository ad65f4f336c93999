/-
  The document's cells: Print: walked.
-/
import Derived.Test.YtikcggbkkgipoaaDoorE2
namespace Go.Proofs.YtikcggbkkgipoaaDoor
open Go.RowKit Go.Shelf

theorem colN_len (c : Int) : (colN c).length ≤ 2 := by unfold colN; split <;> simp
set_option maxHeartbeats 2000000 in
theorem rprint_ff (c r : Int) (w : World) (g : rgt c r = true) : Calls Tryd.prog 15 #[(Value.agg #[Value.int .i64 (c), Value.int .i64 (r), Value.bool false, Value.bool false])] w (StrPost (prtV c r false false) w) := by
  obtain ⟨c0, c1, r0, r1⟩ := rgt_iff.1 g
  have R1 := Lib.hid (fun W => rright_any c r false false W)
  have PE : Hid (prtV c r false false = dol false ++ colN c ++ dol false ++ Lib.decDigits (r + 1).toNat) := if_pos g
  rw [g] at R1
  have IT := Lib.hid (fun W => rdigits_any (r + 1).toNat W (by omega))
  have LT := Lib.hid (fun W => rletters_any c.toNat (by omega) W)
  rw [show ((r + 1).toNat : Int) = r + 1 by omega] at IT
  rw [show (c.toNat : Int) = c by omega] at LT
  have IL := Lib.hid (decDigits_len (r + 1).toNat (by omega))
  have w1 : IntKind.i64.wrap (r + 1) = r + 1 := by rw [IntKind.wrap_i64]; omega
  clear g
  go_enter Tryd.func15, Tryd.ntmps15
  go_wp2_with fail
  refine (R1.out _).mono ?_
  rintro e w2 ⟨rfl, hb⟩
  have HB := Lib.hid ((by (repeat' first | exact Below.refl _ _ | refine Below.alloc ?_ ?_ _ | refine Below.setCell ?_ ?_ _ | refine below_drewN ?_ _ | (simp; done) | (simp; omega)) : Below w.heap.size w _).trans (hb.mono (by simp)))
  have bx := (BoxR.new w c r false false).on hb (by simp)
  have BX := Lib.hid bx
  obtain ⟨b0, b1, b2, b3⟩ := bx
  have sz2 : w.heap.size < w2.heap.size := by have := hb.size; simp at this; omega
  clear hb
  go_wp2_with fail
  refine (LT.out _).mono ?_
  rintro e w3 ⟨⟨L, rfl, lL⟩, hb3⟩
  have HB3 := Lib.hid (via HB.out hb3)
  have zL : L.size ≤ 2 := by rw [bytes_size, lL]; exact colN_len c
  obtain ⟨S1, hS1, lS1⟩ := app_of { data := #[] } L [] _ rfl lL
  have zS1 : S1.size ≤ 3 := by rw [bytes_size, lS1, List.length_append]; have := colN_len c; simp; omega
  have ov1 : ¬ 9223372036854775807 < L.size := by omega
  have ov1' : ¬ 9223372036854775807 < 1 + L.size := by omega
  clear b0 b1 b2 b3
  obtain ⟨b0, b1, b2, b3⟩ := BX.out.on hb3 sz2
  have LS1 := Lib.hid lS1
  clear lS1 lL hb3
  go_wp2_with fail
  refine (IT.out _).mono ?_
  rintro e w4 ⟨⟨S, rfl, hS⟩, rfl⟩
  have hSl : S.size ≤ 4 := by rw [bytes_size, hS]; exact IL.out
  have HS := Lib.hid hS
  have hov : ¬ 9223372036854775807 < S1.size + S.size := by omega
  clear hS
  obtain ⟨F, hF, lF⟩ := app_of S1 S _ _ LS1.out HS.out
  go_wp2
  go_ret
  exact ⟨_, rfl, by rw [lF, PE.out]; simp [dol], HB3.out⟩
set_option maxHeartbeats 2000000 in
theorem rprint_ft (c r : Int) (w : World) (g : rgt c r = true) : Calls Tryd.prog 15 #[(Value.agg #[Value.int .i64 (c), Value.int .i64 (r), Value.bool false, Value.bool true])] w (StrPost (prtV c r false true) w) := by
  obtain ⟨c0, c1, r0, r1⟩ := rgt_iff.1 g
  have R1 := Lib.hid (fun W => rright_any c r false true W)
  have PE : Hid (prtV c r false true = dol false ++ colN c ++ dol true ++ Lib.decDigits (r + 1).toNat) := if_pos g
  rw [g] at R1
  have IT := Lib.hid (fun W => rdigits_any (r + 1).toNat W (by omega))
  have LT := Lib.hid (fun W => rletters_any c.toNat (by omega) W)
  rw [show ((r + 1).toNat : Int) = r + 1 by omega] at IT
  rw [show (c.toNat : Int) = c by omega] at LT
  have IL := Lib.hid (decDigits_len (r + 1).toNat (by omega))
  have w1 : IntKind.i64.wrap (r + 1) = r + 1 := by rw [IntKind.wrap_i64]; omega
  clear g
  go_enter Tryd.func15, Tryd.ntmps15
  go_wp2_with fail
  refine (R1.out _).mono ?_
  rintro e w2 ⟨rfl, hb⟩
  have HB := Lib.hid ((by (repeat' first | exact Below.refl _ _ | refine Below.alloc ?_ ?_ _ | refine Below.setCell ?_ ?_ _ | refine below_drewN ?_ _ | (simp; done) | (simp; omega)) : Below w.heap.size w _).trans (hb.mono (by simp)))
  have bx := (BoxR.new w c r false true).on hb (by simp)
  have BX := Lib.hid bx
  obtain ⟨b0, b1, b2, b3⟩ := bx
  have sz2 : w.heap.size < w2.heap.size := by have := hb.size; simp at this; omega
  clear hb
  go_wp2_with fail
  refine (LT.out _).mono ?_
  rintro e w3 ⟨⟨L, rfl, lL⟩, hb3⟩
  have HB3 := Lib.hid (via HB.out hb3)
  have zL : L.size ≤ 2 := by rw [bytes_size, lL]; exact colN_len c
  obtain ⟨S1, hS1, lS1⟩ := app_of { data := #[] } L [] _ rfl lL
  have zS1 : S1.size ≤ 3 := by rw [bytes_size, lS1, List.length_append]; have := colN_len c; simp; omega
  have ov1 : ¬ 9223372036854775807 < L.size := by omega
  have ov1' : ¬ 9223372036854775807 < 1 + L.size := by omega
  clear b0 b1 b2 b3
  obtain ⟨b0, b1, b2, b3⟩ := BX.out.on hb3 sz2
  have LS1 := Lib.hid lS1
  clear lS1 lL hb3
  obtain ⟨S2, hS2, lS2⟩ := app_of S1 { data := #[36] } _ [36] LS1.out rfl
  have zS2 : S2.size ≤ 4 := by rw [bytes_size, lS2, ← LS1.out, List.length_append, ← bytes_size]; simp; omega
  have ov2 : ¬ 9223372036854775807 < S1.size + 1 := by omega
  have LS2 := Lib.hid lS2
  clear lS2
  go_wp2_with fail
  refine (IT.out _).mono ?_
  rintro e w4 ⟨⟨S, rfl, hS⟩, rfl⟩
  have hSl : S.size ≤ 4 := by rw [bytes_size, hS]; exact IL.out
  have HS := Lib.hid hS
  have hov : ¬ 9223372036854775807 < S2.size + S.size := by omega
  clear hS
  obtain ⟨F, hF, lF⟩ := app_of S2 S _ _ LS2.out HS.out
  go_wp2
  go_ret
  exact ⟨_, rfl, by rw [lF, PE.out]; simp [dol], HB3.out⟩
set_option maxHeartbeats 2000000 in
theorem rprint_tf (c r : Int) (w : World) (g : rgt c r = true) : Calls Tryd.prog 15 #[(Value.agg #[Value.int .i64 (c), Value.int .i64 (r), Value.bool true, Value.bool false])] w (StrPost (prtV c r true false) w) := by
  obtain ⟨c0, c1, r0, r1⟩ := rgt_iff.1 g
  have R1 := Lib.hid (fun W => rright_any c r true false W)
  have PE : Hid (prtV c r true false = dol true ++ colN c ++ dol false ++ Lib.decDigits (r + 1).toNat) := if_pos g
  rw [g] at R1
  have IT := Lib.hid (fun W => rdigits_any (r + 1).toNat W (by omega))
  have LT := Lib.hid (fun W => rletters_any c.toNat (by omega) W)
  rw [show ((r + 1).toNat : Int) = r + 1 by omega] at IT
  rw [show (c.toNat : Int) = c by omega] at LT
  have IL := Lib.hid (decDigits_len (r + 1).toNat (by omega))
  have w1 : IntKind.i64.wrap (r + 1) = r + 1 := by rw [IntKind.wrap_i64]; omega
  clear g
  go_enter Tryd.func15, Tryd.ntmps15
  go_wp2_with fail
  refine (R1.out _).mono ?_
  rintro e w2 ⟨rfl, hb⟩
  have HB := Lib.hid ((by (repeat' first | exact Below.refl _ _ | refine Below.alloc ?_ ?_ _ | refine Below.setCell ?_ ?_ _ | refine below_drewN ?_ _ | (simp; done) | (simp; omega)) : Below w.heap.size w _).trans (hb.mono (by simp)))
  have bx := (BoxR.new w c r true false).on hb (by simp)
  have BX := Lib.hid bx
  obtain ⟨b0, b1, b2, b3⟩ := bx
  have sz2 : w.heap.size < w2.heap.size := by have := hb.size; simp at this; omega
  clear hb
  go_wp2_with fail
  refine (LT.out _).mono ?_
  rintro e w3 ⟨⟨L, rfl, lL⟩, hb3⟩
  have HB3 := Lib.hid (via HB.out hb3)
  have zL : L.size ≤ 2 := by rw [bytes_size, lL]; exact colN_len c
  obtain ⟨S1, hS1, lS1⟩ := app_of { data := #[36] } L [36] _ rfl lL
  have zS1 : S1.size ≤ 3 := by rw [bytes_size, lS1, List.length_append]; have := colN_len c; simp; omega
  have ov1 : ¬ 9223372036854775807 < L.size := by omega
  have ov1' : ¬ 9223372036854775807 < 1 + L.size := by omega
  clear b0 b1 b2 b3
  obtain ⟨b0, b1, b2, b3⟩ := BX.out.on hb3 sz2
  have LS1 := Lib.hid lS1
  clear lS1 lL hb3
  go_wp2_with fail
  refine (IT.out _).mono ?_
  rintro e w4 ⟨⟨S, rfl, hS⟩, rfl⟩
  have hSl : S.size ≤ 4 := by rw [bytes_size, hS]; exact IL.out
  have HS := Lib.hid hS
  have hov : ¬ 9223372036854775807 < S1.size + S.size := by omega
  clear hS
  obtain ⟨F, hF, lF⟩ := app_of S1 S _ _ LS1.out HS.out
  go_wp2
  go_ret
  exact ⟨_, rfl, by rw [lF, PE.out]; simp [dol], HB3.out⟩
set_option maxHeartbeats 2000000 in
theorem rprint_tt (c r : Int) (w : World) (g : rgt c r = true) : Calls Tryd.prog 15 #[(Value.agg #[Value.int .i64 (c), Value.int .i64 (r), Value.bool true, Value.bool true])] w (StrPost (prtV c r true true) w) := by
  obtain ⟨c0, c1, r0, r1⟩ := rgt_iff.1 g
  have R1 := Lib.hid (fun W => rright_any c r true true W)
  have PE : Hid (prtV c r true true = dol true ++ colN c ++ dol true ++ Lib.decDigits (r + 1).toNat) := if_pos g
  rw [g] at R1
  have IT := Lib.hid (fun W => rdigits_any (r + 1).toNat W (by omega))
  have LT := Lib.hid (fun W => rletters_any c.toNat (by omega) W)
  rw [show ((r + 1).toNat : Int) = r + 1 by omega] at IT
  rw [show (c.toNat : Int) = c by omega] at LT
  have IL := Lib.hid (decDigits_len (r + 1).toNat (by omega))
  have w1 : IntKind.i64.wrap (r + 1) = r + 1 := by rw [IntKind.wrap_i64]; omega
  clear g
  go_enter Tryd.func15, Tryd.ntmps15
  go_wp2_with fail
  refine (R1.out _).mono ?_
  rintro e w2 ⟨rfl, hb⟩
  have HB := Lib.hid ((by (repeat' first | exact Below.refl _ _ | refine Below.alloc ?_ ?_ _ | refine Below.setCell ?_ ?_ _ | refine below_drewN ?_ _ | (simp; done) | (simp; omega)) : Below w.heap.size w _).trans (hb.mono (by simp)))
  have bx := (BoxR.new w c r true true).on hb (by simp)
  have BX := Lib.hid bx
  obtain ⟨b0, b1, b2, b3⟩ := bx
  have sz2 : w.heap.size < w2.heap.size := by have := hb.size; simp at this; omega
  clear hb
  go_wp2_with fail
  refine (LT.out _).mono ?_
  rintro e w3 ⟨⟨L, rfl, lL⟩, hb3⟩
  have HB3 := Lib.hid (via HB.out hb3)
  have zL : L.size ≤ 2 := by rw [bytes_size, lL]; exact colN_len c
  obtain ⟨S1, hS1, lS1⟩ := app_of { data := #[36] } L [36] _ rfl lL
  have zS1 : S1.size ≤ 3 := by rw [bytes_size, lS1, List.length_append]; have := colN_len c; simp; omega
  have ov1 : ¬ 9223372036854775807 < L.size := by omega
  have ov1' : ¬ 9223372036854775807 < 1 + L.size := by omega
  clear b0 b1 b2 b3
  obtain ⟨b0, b1, b2, b3⟩ := BX.out.on hb3 sz2
  have LS1 := Lib.hid lS1
  clear lS1 lL hb3
  obtain ⟨S2, hS2, lS2⟩ := app_of S1 { data := #[36] } _ [36] LS1.out rfl
  have zS2 : S2.size ≤ 4 := by rw [bytes_size, lS2, ← LS1.out, List.length_append, ← bytes_size]; simp; omega
  have ov2 : ¬ 9223372036854775807 < S1.size + 1 := by omega
  have LS2 := Lib.hid lS2
  clear lS2
  go_wp2_with fail
  refine (IT.out _).mono ?_
  rintro e w4 ⟨⟨S, rfl, hS⟩, rfl⟩
  have hSl : S.size ≤ 4 := by rw [bytes_size, hS]; exact IL.out
  have HS := Lib.hid hS
  have hov : ¬ 9223372036854775807 < S2.size + S.size := by omega
  clear hS
  obtain ⟨F, hF, lF⟩ := app_of S2 S _ _ LS2.out HS.out
  go_wp2
  go_ret
  exact ⟨_, rfl, by rw [lF, PE.out]; simp [dol], HB3.out⟩
theorem rprint_out (c r : Int) (x y : Bool) (w : World) (g : rgt c r = false) : Calls Tryd.prog 15 #[(Value.agg #[Value.int .i64 (c), Value.int .i64 (r), Value.bool x, Value.bool y])] w (StrPost (prtV c r x y) w) := by
  have R1 := Lib.hid (fun W => rright_any c r x y W)
  have PE : Hid (prtV c r x y = []) := by unfold Hid; exact if_neg (by rw [g]; simp)
  rw [g] at R1
  clear g
  go_enter Tryd.func15, Tryd.ntmps15
  go_wp2_with fail
  refine (R1.out _).mono ?_
  rintro e w2 ⟨rfl, hb⟩
  have HB := Lib.hid ((by (repeat' first | exact Below.refl _ _ | refine Below.alloc ?_ ?_ _ | refine Below.setCell ?_ ?_ _ | refine below_drewN ?_ _ | (simp; done) | (simp; omega)) : Below w.heap.size w _).trans (hb.mono (by simp)))
  clear hb
  go_wp2
  go_ret
  exact ⟨_, rfl, by rw [PE.out], HB.out⟩
theorem rprint_any (c r : Int) (x y : Bool) (w : World) : Calls Tryd.prog 15 #[(Value.agg #[Value.int .i64 (c), Value.int .i64 (r), Value.bool x, Value.bool y])] w (StrPost (prtV c r x y) w) := by
  by_cases g : rgt c r = true
  · cases x <;> cases y
    · exact rprint_ff c r w g
    · exact rprint_ft c r w g
    · exact rprint_tf c r w g
    · exact rprint_tt c r w g
  · exact rprint_out c r x y w (by simpa using g)
end Go.Proofs.YtikcggbkkgipoaaDoor
