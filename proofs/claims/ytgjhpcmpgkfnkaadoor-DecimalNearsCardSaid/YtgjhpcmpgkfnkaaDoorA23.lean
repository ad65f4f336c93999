/-
  The chapter's examples, as the statements' head asks them: walked.
-/
import Derived.Test.YtgjhpcmpgkfnkaaDoorA22
namespace Go.Proofs.YtgjhpcmpgkfnkaaDoor
open Go.RowKit Go.Shelf

theorem al1 (w : World) (o : Obj) : Below w.heap.size w (w.alloc o) := (Below.refl _ _).alloc (Nat.le_refl _) _
/-- What is left of a row of statements behind the first k. -/
def sdrop : Nat → Code → Code
  | k + 1, .seq _ b => sdrop k b
  | _, c => c
noncomputable def shownBody : Code := (Tryd.f9.body).getD .skip
set_option maxRecDepth 1000000 in
set_option maxHeartbeats 16000000 in
theorem seg5 {w wr : World} {b0 : Nat} (VIA : Hid (∀ X x : World, Below b0 w X → Below X.heap.size X x → Below b0 w x)) (TB : Hid (∀ X : World, Below b0 w X → Tabs X)) (HB0 : Hid (Below b0 w wr)) {c0 c1 c2 c3 c4 c5 c6 c7 c8 c9 c10 c11 c12 c13 c14 c15 c16 c17 c18 c19 c20 c21 c22 c23 c24 c25 c26 c27 c28 c29 c30 c31 c32 c33 c34 c35 c36 c37 c38 c39 c40 c41 c42 c43 c44 c45 c46 c47 c48 c49 c50 c51 c52 c53 c54 c55 c56 c57 c58 c59 c60 c61 c62 c63 c64 c65 c66 c67 c68 c69 c70 c71 c72 c73 c74 c75 c76 c77 c78 c79 c80 c81 c82 c83 c84 c85 c86 c87 c88 c89 c90 c91 c92 c93 c94 c95 c96 c97 c98 c99 c100 c101 c102 c103 c104 c105 c106 c107 c108 c109 c110 c111 c112 c113 c114 c115 c116 c117 c118 c119 c120 c121 c122 c123 c124 c125 c126 c127 c128 c129 c130 c131 c132 c133 c134 c135 c136 c137 c138 c139 c140 c141 c142 c143 c144 c145 c146 c147 c148 c149 c150 c151 c152 c153 c154 c155 c156 c157 c158 c159 c160 c161 c162 c163 c164 c165 c166 c167 c168 c169 c170 c171 c172 c173 c174 c175 c176 c177 c178 c179 c180 c181 c182 c183 c184 c185 c186 c187 c188 c189 c190 c191 c192 c193 c194 c195 c196 c197 c198 c199 c200 c201 c202 c203 c204 c205 c206 c207 c208 c209 c210 c211 c212 c213 c214 c215 c216 c217 c218 c219 c220 c221 c222 c223 c224 c225 c226 c227 c228 c229 c230 c231 c232 c233 c234 c235 c236 c237 c238 c239 c240 c241 c242 c243 c244 c245 c246 c247 c248 c249 c250 c251 c252 c253 c254 c255 c256 c257 c258 c259 c260 c261 c262 c263 c264 c265 c266 c267 c268 c269 c270 c271 c272 c273 c274 c275 c276 c277 c278 c279 c280 : Value} :
    Code.wp Tryd.prog (sdrop 23 shownBody) (bodyPost Tryd.prog Tryd.f9 fun e w' => e = .returned (.bool true) ∧ Below b0 w w') ⟨#[c0, c1, c2, c3, c4, c5, c6, c7, c8, c9, c10, c11, c12, c13, c14, c15, c16, c17, c18, c19, c20, c21, c22, c23, c24, c25, c26, c27, c28, c29, c30, c31, c32, c33, c34, c35, c36, c37, c38, c39, c40, c41, c42, c43, c44, c45, c46, c47, c48, c49, c50, c51, c52, c53, c54, c55, c56, c57, c58, c59, c60, c61, c62, c63, c64, c65, c66, c67, c68, c69, c70, c71, c72, c73, c74, c75, c76, c77, c78, c79, c80, c81, c82, c83, c84, c85, c86, c87, c88, c89, c90, c91, c92, c93, c94, c95, c96, c97, c98, c99, c100, c101, c102, c103, c104, c105, c106, c107, c108, c109, c110, c111, c112, c113, c114, c115, c116, c117, c118, c119, c120, c121, c122, c123, c124, c125, c126, c127, c128, c129, c130, c131, c132, c133, c134, c135, c136, c137, c138, c139, c140, c141, c142, c143, c144, c145, c146, c147, c148, c149, c150, c151, c152, c153, c154, c155, c156, c157, c158, c159, c160, c161, c162, c163, c164, c165, c166, c167, c168, c169, c170, c171, c172, c173, c174, c175, c176, c177, c178, c179, c180, c181, c182, c183, c184, c185, c186, c187, c188, c189, c190, c191, c192, c193, c194, c195, c196, c197, c198, c199, c200, c201, c202, c203, c204, c205, c206, c207, c208, c209, c210, c211, c212, c213, c214, c215, c216, c217, c218, c219, c220, c221, c222, c223, c224, c225, c226, c227, c228, c229, c230, c231, c232, c233, c234, c235, c236, c237, c238, c239, c240, c241, c242, c243, c244, c245, c246, c247, c248, c249, c250, c251, c252, c253, c254, c255, c256, c257, c258, c259, c260, c261, c262, c263, c264, c265, c266, c267, c268, c269, c270, c271, c272, c273, c274, c275, c276, c277, c278, c279, c280], []⟩ wr := by
  conv => arg 2; whnf
  go_wp2_with fail
  refine (dec_any false ⟨#[49, 50, 51]⟩ (0) _).mono ?_
  rintro e v1 ⟨rfl, hbn⟩
  have HB1 : Hid (Below b0 w v1) := VIA.out _ _ HB0.out hbn
  clear hbn HB0
  go_wp2_with fail
  refine (ex_p0 _ (TB.out _ HB1.out)).mono ?_
  rintro e v2 ⟨rfl, hbn⟩
  have HB2 : Hid (Below b0 w v2) := VIA.out _ _ HB1.out hbn
  clear hbn HB1
  go_wp2_with fail
  refine (dec_any false ⟨#[49, 50, 51]⟩ (-1) _).mono ?_
  rintro e v3 ⟨rfl, hbn⟩
  have HB3 : Hid (Below b0 w v3) := VIA.out _ _ HB2.out hbn
  clear hbn HB2
  go_wp2_with fail
  refine (ex_p1 _ (TB.out _ HB3.out)).mono ?_
  rintro e v4 ⟨rfl, hbn⟩
  have HB4 : Hid (Below b0 w v4) := VIA.out _ _ HB3.out hbn
  clear hbn HB3
  go_wp2_with fail
  refine (dec_any false ⟨#[49, 50, 51]⟩ (-3) _).mono ?_
  rintro e v5 ⟨rfl, hbn⟩
  have HB5 : Hid (Below b0 w v5) := VIA.out _ _ HB4.out hbn
  clear hbn HB4
  go_wp2_with fail
  refine (ex_p3 _ (TB.out _ HB5.out)).mono ?_
  rintro e v6 ⟨rfl, hbn⟩
  have HB6 : Hid (Below b0 w v6) := VIA.out _ _ HB5.out hbn
  clear hbn HB5
  go_wp2_with fail
  refine (dec_any false ⟨#[49, 50, 51]⟩ (-8) _).mono ?_
  rintro e v7 ⟨rfl, hbn⟩
  have HB7 : Hid (Below b0 w v7) := VIA.out _ _ HB6.out hbn
  clear hbn HB6
  go_wp2_with fail
  refine (ex_p8 _ (TB.out _ HB7.out)).mono ?_
  rintro e v8 ⟨rfl, hbn⟩
  have HB8 : Hid (Below b0 w v8) := VIA.out _ _ HB7.out hbn
  clear hbn HB7
  go_wp2_with fail
  refine (dec_any false ⟨#[49, 50, 51]⟩ (-9) _).mono ?_
  rintro e v9 ⟨rfl, hbn⟩
  have HB9 : Hid (Below b0 w v9) := VIA.out _ _ HB8.out hbn
  clear hbn HB8
  go_wp2_with fail
  refine (ex_p9 _ (TB.out _ HB9.out)).mono ?_
  rintro e v10 ⟨rfl, hbn⟩
  have HB10 : Hid (Below b0 w v10) := VIA.out _ _ HB9.out hbn
  clear hbn HB9
  go_wp2_with fail
  refine (dec_any false ⟨#[49, 50, 51]⟩ (18) _).mono ?_
  rintro e v11 ⟨rfl, hbn⟩
  have HB11 : Hid (Below b0 w v11) := VIA.out _ _ HB10.out hbn
  clear hbn HB10
  go_wp2_with fail
  refine (ex_p18 _ (TB.out _ HB11.out)).mono ?_
  rintro e v12 ⟨rfl, hbn⟩
  have HB12 : Hid (Below b0 w v12) := VIA.out _ _ HB11.out hbn
  clear hbn HB11
  go_wp2_with fail
  refine (dec_any false ⟨#[49, 50, 51]⟩ (19) _).mono ?_
  rintro e v13 ⟨rfl, hbn⟩
  have HB13 : Hid (Below b0 w v13) := VIA.out _ _ HB12.out hbn
  clear hbn HB12
  go_wp2_with fail
  refine (ex_p19 _ (TB.out _ HB13.out)).mono ?_
  rintro e v14 ⟨rfl, hbn⟩
  have HB14 : Hid (Below b0 w v14) := VIA.out _ _ HB13.out hbn
  clear hbn HB13
  go_wp2
  go_ret
  exact ⟨rfl, HB14.out⟩
set_option maxRecDepth 1000000 in
set_option maxHeartbeats 16000000 in
theorem seg4 {w wr : World} {b0 : Nat} (VIA : Hid (∀ X x : World, Below b0 w X → Below X.heap.size X x → Below b0 w x)) (TB : Hid (∀ X : World, Below b0 w X → Tabs X)) (HB0 : Hid (Below b0 w wr)) {c0 c1 c2 c3 c4 c5 c6 c7 c8 c9 c10 c11 c12 c13 c14 c15 c16 c17 c18 c19 c20 c21 c22 c23 c24 c25 c26 c27 c28 c29 c30 c31 c32 c33 c34 c35 c36 c37 c38 c39 c40 c41 c42 c43 c44 c45 c46 c47 c48 c49 c50 c51 c52 c53 c54 c55 c56 c57 c58 c59 c60 c61 c62 c63 c64 c65 c66 c67 c68 c69 c70 c71 c72 c73 c74 c75 c76 c77 c78 c79 c80 c81 c82 c83 c84 c85 c86 c87 c88 c89 c90 c91 c92 c93 c94 c95 c96 c97 c98 c99 c100 c101 c102 c103 c104 c105 c106 c107 c108 c109 c110 c111 c112 c113 c114 c115 c116 c117 c118 c119 c120 c121 c122 c123 c124 c125 c126 c127 c128 c129 c130 c131 c132 c133 c134 c135 c136 c137 c138 c139 c140 c141 c142 c143 c144 c145 c146 c147 c148 c149 c150 c151 c152 c153 c154 c155 c156 c157 c158 c159 c160 c161 c162 c163 c164 c165 c166 c167 c168 c169 c170 c171 c172 c173 c174 c175 c176 c177 c178 c179 c180 c181 c182 c183 c184 c185 c186 c187 c188 c189 c190 c191 c192 c193 c194 c195 c196 c197 c198 c199 c200 c201 c202 c203 c204 c205 c206 c207 c208 c209 c210 c211 c212 c213 c214 c215 c216 c217 c218 c219 c220 c221 c222 c223 c224 c225 c226 c227 c228 c229 c230 c231 c232 c233 c234 c235 c236 c237 c238 c239 c240 c241 c242 c243 c244 c245 c246 c247 c248 c249 c250 c251 c252 c253 c254 c255 c256 c257 c258 c259 c260 c261 c262 c263 c264 c265 c266 c267 c268 c269 c270 c271 c272 c273 c274 c275 c276 c277 c278 c279 c280 : Value} :
    Code.wp Tryd.prog (sdrop 16 shownBody) (bodyPost Tryd.prog Tryd.f9 fun e w' => e = .returned (.bool true) ∧ Below b0 w w') ⟨#[c0, c1, c2, c3, c4, c5, c6, c7, c8, c9, c10, c11, c12, c13, c14, c15, c16, c17, c18, c19, c20, c21, c22, c23, c24, c25, c26, c27, c28, c29, c30, c31, c32, c33, c34, c35, c36, c37, c38, c39, c40, c41, c42, c43, c44, c45, c46, c47, c48, c49, c50, c51, c52, c53, c54, c55, c56, c57, c58, c59, c60, c61, c62, c63, c64, c65, c66, c67, c68, c69, c70, c71, c72, c73, c74, c75, c76, c77, c78, c79, c80, c81, c82, c83, c84, c85, c86, c87, c88, c89, c90, c91, c92, c93, c94, c95, c96, c97, c98, c99, c100, c101, c102, c103, c104, c105, c106, c107, c108, c109, c110, c111, c112, c113, c114, c115, c116, c117, c118, c119, c120, c121, c122, c123, c124, c125, c126, c127, c128, c129, c130, c131, c132, c133, c134, c135, c136, c137, c138, c139, c140, c141, c142, c143, c144, c145, c146, c147, c148, c149, c150, c151, c152, c153, c154, c155, c156, c157, c158, c159, c160, c161, c162, c163, c164, c165, c166, c167, c168, c169, c170, c171, c172, c173, c174, c175, c176, c177, c178, c179, c180, c181, c182, c183, c184, c185, c186, c187, c188, c189, c190, c191, c192, c193, c194, c195, c196, c197, c198, c199, c200, c201, c202, c203, c204, c205, c206, c207, c208, c209, c210, c211, c212, c213, c214, c215, c216, c217, c218, c219, c220, c221, c222, c223, c224, c225, c226, c227, c228, c229, c230, c231, c232, c233, c234, c235, c236, c237, c238, c239, c240, c241, c242, c243, c244, c245, c246, c247, c248, c249, c250, c251, c252, c253, c254, c255, c256, c257, c258, c259, c260, c261, c262, c263, c264, c265, c266, c267, c268, c269, c270, c271, c272, c273, c274, c275, c276, c277, c278, c279, c280], []⟩ wr := by
  conv => arg 2; whnf
  go_wp2_with fail
  refine (ex_w _).mono ?_
  rintro e v1 ⟨rfl, hbn⟩
  have HB1 : Hid (Below b0 w v1) := VIA.out _ _ HB0.out hbn
  clear hbn HB0
  go_wp2_with fail
  generalize hal : v1.alloc (.cells #[.bool true, .string ⟨#[49, 50, 53]⟩, .int .i64 ((-4))] 23) = v2
  have hbn := al1 v1 (.cells #[.bool true, .string ⟨#[49, 50, 53]⟩, .int .i64 ((-4))] 23)
  rw [hal] at hbn
  have nbx := BoxD.new v1 true ⟨#[49, 50, 53]⟩ ((-4))
  rw [hal] at nbx
  have nbz : v1.heap.size < v2.heap.size := by rw [← hal]; simp
  have HB2 : Hid (Below b0 w v2) := VIA.out _ _ HB1.out hbn
  clear hbn HB1
  obtain ⟨p2, hp⟩ : ∃ b, v1.heap.size = b := ⟨_, rfl⟩
  rw [hp] at nbx nbz ⊢
  have BX2 := Lib.hid nbx; have BZ2 := Lib.hid nbz
  clear nbx nbz
  clear hp hal
  refine (ex_y _).mono ?_
  rintro e v3 ⟨rfl, hbn⟩
  have HB3 : Hid (Below b0 w v3) := VIA.out _ _ HB2.out hbn
  have bx := BX2.out.on hbn BZ2.out
  have bz : p2 < v3.heap.size := Nat.lt_of_lt_of_le BZ2.out hbn.size
  clear BX2 BZ2
  have BX2 := Lib.hid bx; have BZ2 := Lib.hid bz
  clear bx bz
  clear hbn HB2
  go_wp2_with fail
  generalize hal : v3.alloc (.cells #[.bool false, .string ⟨#[53]⟩, .int .i64 ((-1))] 23) = v4
  have hbn := al1 v3 (.cells #[.bool false, .string ⟨#[53]⟩, .int .i64 ((-1))] 23)
  rw [hal] at hbn
  have nbx := BoxD.new v3 false ⟨#[53]⟩ ((-1))
  rw [hal] at nbx
  have nbz : v3.heap.size < v4.heap.size := by rw [← hal]; simp
  have HB4 : Hid (Below b0 w v4) := VIA.out _ _ HB3.out hbn
  have bx := BX2.out.on hbn BZ2.out
  have bz : p2 < v4.heap.size := Nat.lt_of_lt_of_le BZ2.out hbn.size
  clear BX2 BZ2
  have BX2 := Lib.hid bx; have BZ2 := Lib.hid bz
  clear bx bz
  clear hbn HB3
  obtain ⟨p4, hp⟩ : ∃ b, v3.heap.size = b := ⟨_, rfl⟩
  rw [hp] at nbx nbz ⊢
  have BX4 := Lib.hid nbx; have BZ4 := Lib.hid nbz
  clear nbx nbz
  clear hp hal
  refine (ex_aa _).mono ?_
  rintro e v5 ⟨rfl, hbn⟩
  have HB5 : Hid (Below b0 w v5) := VIA.out _ _ HB4.out hbn
  have bx := BX2.out.on hbn BZ2.out
  have bz : p2 < v5.heap.size := Nat.lt_of_lt_of_le BZ2.out hbn.size
  clear BX2 BZ2
  have BX2 := Lib.hid bx; have BZ2 := Lib.hid bz
  clear bx bz
  have bx := BX4.out.on hbn BZ4.out
  have bz : p4 < v5.heap.size := Nat.lt_of_lt_of_le BZ4.out hbn.size
  clear BX4 BZ4
  have BX4 := Lib.hid bx; have BZ4 := Lib.hid bz
  clear bx bz
  clear hbn HB4
  go_wp2_with fail
  generalize hal : v5.alloc (.cells #[.bool false, .string ⟨#[53]⟩, .int .i64 (0)] 23) = v6
  have hbn := al1 v5 (.cells #[.bool false, .string ⟨#[53]⟩, .int .i64 (0)] 23)
  rw [hal] at hbn
  have nbx := BoxD.new v5 false ⟨#[53]⟩ (0)
  rw [hal] at nbx
  have nbz : v5.heap.size < v6.heap.size := by rw [← hal]; simp
  have HB6 : Hid (Below b0 w v6) := VIA.out _ _ HB5.out hbn
  have bx := BX2.out.on hbn BZ2.out
  have bz : p2 < v6.heap.size := Nat.lt_of_lt_of_le BZ2.out hbn.size
  clear BX2 BZ2
  have BX2 := Lib.hid bx; have BZ2 := Lib.hid bz
  clear bx bz
  have bx := BX4.out.on hbn BZ4.out
  have bz : p4 < v6.heap.size := Nat.lt_of_lt_of_le BZ4.out hbn.size
  clear BX4 BZ4
  have BX4 := Lib.hid bx; have BZ4 := Lib.hid bz
  clear bx bz
  clear hbn HB5
  obtain ⟨p6, hp⟩ : ∃ b, v5.heap.size = b := ⟨_, rfl⟩
  rw [hp] at nbx nbz ⊢
  have BX6 := Lib.hid nbx; have BZ6 := Lib.hid nbz
  clear nbx nbz
  clear hp hal
  refine (ex_cc _).mono ?_
  rintro e v7 ⟨rfl, hbn⟩
  have HB7 : Hid (Below b0 w v7) := VIA.out _ _ HB6.out hbn
  have bx := BX2.out.on hbn BZ2.out
  have bz : p2 < v7.heap.size := Nat.lt_of_lt_of_le BZ2.out hbn.size
  clear BX2 BZ2
  have BX2 := Lib.hid bx; have BZ2 := Lib.hid bz
  clear bx bz
  have bx := BX4.out.on hbn BZ4.out
  have bz : p4 < v7.heap.size := Nat.lt_of_lt_of_le BZ4.out hbn.size
  clear BX4 BZ4
  have BX4 := Lib.hid bx; have BZ4 := Lib.hid bz
  clear bx bz
  have bx := BX6.out.on hbn BZ6.out
  have bz : p6 < v7.heap.size := Nat.lt_of_lt_of_le BZ6.out hbn.size
  clear BX6 BZ6
  have BX6 := Lib.hid bx; have BZ6 := Lib.hid bz
  clear bx bz
  clear hbn HB6
  go_wp2_with fail
  generalize hal : v7.alloc (.cells #[.bool false, .string ⟨#[]⟩, .int .i64 (0)] 23) = v8
  have hbn := al1 v7 (.cells #[.bool false, .string ⟨#[]⟩, .int .i64 (0)] 23)
  rw [hal] at hbn
  have HB8 : Hid (Below b0 w v8) := VIA.out _ _ HB7.out hbn
  have bx := BX2.out.on hbn BZ2.out
  have bz : p2 < v8.heap.size := Nat.lt_of_lt_of_le BZ2.out hbn.size
  clear BX2 BZ2
  have BX2 := Lib.hid bx; have BZ2 := Lib.hid bz
  clear bx bz
  have bx := BX4.out.on hbn BZ4.out
  have bz : p4 < v8.heap.size := Nat.lt_of_lt_of_le BZ4.out hbn.size
  clear BX4 BZ4
  have BX4 := Lib.hid bx; have BZ4 := Lib.hid bz
  clear bx bz
  have bx := BX6.out.on hbn BZ6.out
  have bz : p6 < v8.heap.size := Nat.lt_of_lt_of_le BZ6.out hbn.size
  clear BX6 BZ6
  have BX6 := Lib.hid bx; have BZ6 := Lib.hid bz
  clear bx bz
  clear hbn HB7
  obtain ⟨p8, hp⟩ : ∃ b, v7.heap.size = b := ⟨_, rfl⟩
  rw [hp]
  clear hp hal
  refine (ex_dd _).mono ?_
  rintro e v9 ⟨rfl, hbn⟩
  have HB9 : Hid (Below b0 w v9) := VIA.out _ _ HB8.out hbn
  have bx := BX2.out.on hbn BZ2.out
  have bz : p2 < v9.heap.size := Nat.lt_of_lt_of_le BZ2.out hbn.size
  clear BX2 BZ2
  have BX2 := Lib.hid bx; have BZ2 := Lib.hid bz
  clear bx bz
  have bx := BX4.out.on hbn BZ4.out
  have bz : p4 < v9.heap.size := Nat.lt_of_lt_of_le BZ4.out hbn.size
  clear BX4 BZ4
  have BX4 := Lib.hid bx; have BZ4 := Lib.hid bz
  clear bx bz
  have bx := BX6.out.on hbn BZ6.out
  have bz : p6 < v9.heap.size := Nat.lt_of_lt_of_le BZ6.out hbn.size
  clear BX6 BZ6
  have BX6 := Lib.hid bx; have BZ6 := Lib.hid bz
  clear bx bz
  clear hbn HB8
  go_wp2_with fail
  generalize hal : v9.alloc (.cells #[.bool false, .string ⟨#[]⟩, .int .i64 (0)] 23) = v10
  have hbn := al1 v9 (.cells #[.bool false, .string ⟨#[]⟩, .int .i64 (0)] 23)
  rw [hal] at hbn
  have HB10 : Hid (Below b0 w v10) := VIA.out _ _ HB9.out hbn
  have bx := BX2.out.on hbn BZ2.out
  have bz : p2 < v10.heap.size := Nat.lt_of_lt_of_le BZ2.out hbn.size
  clear BX2 BZ2
  have BX2 := Lib.hid bx; have BZ2 := Lib.hid bz
  clear bx bz
  have bx := BX4.out.on hbn BZ4.out
  have bz : p4 < v10.heap.size := Nat.lt_of_lt_of_le BZ4.out hbn.size
  clear BX4 BZ4
  have BX4 := Lib.hid bx; have BZ4 := Lib.hid bz
  clear bx bz
  have bx := BX6.out.on hbn BZ6.out
  have bz : p6 < v10.heap.size := Nat.lt_of_lt_of_le BZ6.out hbn.size
  clear BX6 BZ6
  have BX6 := Lib.hid bx; have BZ6 := Lib.hid bz
  clear bx bz
  clear hbn HB9
  obtain ⟨p10, hp⟩ : ∃ b, v9.heap.size = b := ⟨_, rfl⟩
  rw [hp]
  clear hp hal
  refine (ex_ee _).mono ?_
  rintro e v11 ⟨rfl, hbn⟩
  have HB11 : Hid (Below b0 w v11) := VIA.out _ _ HB10.out hbn
  have bx := BX2.out.on hbn BZ2.out
  have bz : p2 < v11.heap.size := Nat.lt_of_lt_of_le BZ2.out hbn.size
  clear BX2 BZ2
  have BX2 := Lib.hid bx; have BZ2 := Lib.hid bz
  clear bx bz
  have bx := BX4.out.on hbn BZ4.out
  have bz : p4 < v11.heap.size := Nat.lt_of_lt_of_le BZ4.out hbn.size
  clear BX4 BZ4
  have BX4 := Lib.hid bx; have BZ4 := Lib.hid bz
  clear bx bz
  have bx := BX6.out.on hbn BZ6.out
  have bz : p6 < v11.heap.size := Nat.lt_of_lt_of_le BZ6.out hbn.size
  clear BX6 BZ6
  have BX6 := Lib.hid bx; have BZ6 := Lib.hid bz
  clear bx bz
  clear hbn HB10
  go_upto_region 25 with fail
  generalize hal : v11.alloc (.cells #[.bool false, .string ⟨#[]⟩, .int .i64 (0)] 23) = v12
  have hbn := al1 v11 (.cells #[.bool false, .string ⟨#[]⟩, .int .i64 (0)] 23)
  rw [hal] at hbn
  have HB12 : Hid (Below b0 w v12) := VIA.out _ _ HB11.out hbn
  have bx := BX2.out.on hbn BZ2.out
  have bz : p2 < v12.heap.size := Nat.lt_of_lt_of_le BZ2.out hbn.size
  clear BX2 BZ2
  have BX2 := Lib.hid bx; have BZ2 := Lib.hid bz
  clear bx bz
  have bx := BX4.out.on hbn BZ4.out
  have bz : p4 < v12.heap.size := Nat.lt_of_lt_of_le BZ4.out hbn.size
  clear BX4 BZ4
  have BX4 := Lib.hid bx; have BZ4 := Lib.hid bz
  clear bx bz
  have bx := BX6.out.on hbn BZ6.out
  have bz : p6 < v12.heap.size := Nat.lt_of_lt_of_le BZ6.out hbn.size
  clear BX6 BZ6
  have BX6 := Lib.hid bx; have BZ6 := Lib.hid bz
  clear bx bz
  clear hbn HB11
  obtain ⟨p12, hp⟩ : ∃ b, v11.heap.size = b := ⟨_, rfl⟩
  rw [hp]
  clear hp hal
  obtain ⟨c20, c21, c22⟩ := BX2.out
  have m2 := BZ2.out
  obtain ⟨c40, c41, c42⟩ := BX4.out
  have m4 := BZ4.out
  obtain ⟨c60, c61, c62⟩ := BX6.out
  have m6 := BZ6.out
  have ST : Hid ((v12.cell? ⟨p2, 0, none⟩ = some (.bool true) ∧ v12.cell? ⟨p2, 1, none⟩ = some (.string ⟨#[49, 50, 53]⟩) ∧ v12.cell? ⟨p2, 2, none⟩ = some (.int .i64 (-4)) ∧ v12.cell? ⟨p4, 0, none⟩ = some (.bool false) ∧ v12.cell? ⟨p4, 1, none⟩ = some (.string ⟨#[53]⟩) ∧ v12.cell? ⟨p4, 2, none⟩ = some (.int .i64 (-1)) ∧ v12.cell? ⟨p6, 0, none⟩ = some (.bool false) ∧ v12.cell? ⟨p6, 1, none⟩ = some (.string ⟨#[53]⟩) ∧ v12.cell? ⟨p6, 2, none⟩ = some (.int .i64 0)) ∧ ((p2 < v12.heap.size ∧ p4 < v12.heap.size ∧ p6 < v12.heap.size) ∧ Below b0 w v12)) := ⟨⟨c20, c21, c22, c40, c41, c42, c60, c61, c62⟩, ⟨m2, m4, m6⟩, HB12.out⟩
  clear c20 c21 c22 m2 BX2 BZ2 c40 c41 c42 m4 BX4 BZ4 c60 c61 c62 m6 BX6 BZ6
  have KS : Hid (∀ A Z : World, ((A.cell? ⟨p2, 0, none⟩ = some (.bool true) ∧ A.cell? ⟨p2, 1, none⟩ = some (.string ⟨#[49, 50, 53]⟩) ∧ A.cell? ⟨p2, 2, none⟩ = some (.int .i64 (-4)) ∧ A.cell? ⟨p4, 0, none⟩ = some (.bool false) ∧ A.cell? ⟨p4, 1, none⟩ = some (.string ⟨#[53]⟩) ∧ A.cell? ⟨p4, 2, none⟩ = some (.int .i64 (-1)) ∧ A.cell? ⟨p6, 0, none⟩ = some (.bool false) ∧ A.cell? ⟨p6, 1, none⟩ = some (.string ⟨#[53]⟩) ∧ A.cell? ⟨p6, 2, none⟩ = some (.int .i64 0)) ∧ ((p2 < A.heap.size ∧ p4 < A.heap.size ∧ p6 < A.heap.size) ∧ Below b0 w A)) → Below A.heap.size A Z → ((Z.cell? ⟨p2, 0, none⟩ = some (.bool true) ∧ Z.cell? ⟨p2, 1, none⟩ = some (.string ⟨#[49, 50, 53]⟩) ∧ Z.cell? ⟨p2, 2, none⟩ = some (.int .i64 (-4)) ∧ Z.cell? ⟨p4, 0, none⟩ = some (.bool false) ∧ Z.cell? ⟨p4, 1, none⟩ = some (.string ⟨#[53]⟩) ∧ Z.cell? ⟨p4, 2, none⟩ = some (.int .i64 (-1)) ∧ Z.cell? ⟨p6, 0, none⟩ = some (.bool false) ∧ Z.cell? ⟨p6, 1, none⟩ = some (.string ⟨#[53]⟩) ∧ Z.cell? ⟨p6, 2, none⟩ = some (.int .i64 0)) ∧ ((p2 < Z.heap.size ∧ p4 < Z.heap.size ∧ p6 < Z.heap.size) ∧ Below b0 w Z))) := by
    rintro A Z ⟨⟨h0, h1, h2, h3, h4, h5, h6, h7, h8⟩, ⟨l0, l1, l2⟩, hb⟩ hx
    have hz := hx.size
    refine ⟨⟨(hx.cell (p := ⟨p2, 0, none⟩) l0).trans h0, (hx.cell (p := ⟨p2, 1, none⟩) l0).trans h1, (hx.cell (p := ⟨p2, 2, none⟩) l0).trans h2, (hx.cell (p := ⟨p4, 0, none⟩) l1).trans h3, (hx.cell (p := ⟨p4, 1, none⟩) l1).trans h4, (hx.cell (p := ⟨p4, 2, none⟩) l1).trans h5, (hx.cell (p := ⟨p6, 0, none⟩) l2).trans h6, (hx.cell (p := ⟨p6, 1, none⟩) l2).trans h7, (hx.cell (p := ⟨p6, 2, none⟩) l2).trans h8⟩, ⟨by omega, by omega, by omega⟩, VIA.out _ _ hb hx⟩
  go_cut [246] (fun sv wx => sv = .bool false ∧ Hid (Below b0 w wx))
  case first =>
    go_region_held3 (fun W => (W.cell? ⟨p2, 0, none⟩ = some (.bool true) ∧ W.cell? ⟨p2, 1, none⟩ = some (.string ⟨#[49, 50, 53]⟩) ∧ W.cell? ⟨p2, 2, none⟩ = some (.int .i64 (-4)) ∧ W.cell? ⟨p4, 0, none⟩ = some (.bool false) ∧ W.cell? ⟨p4, 1, none⟩ = some (.string ⟨#[53]⟩) ∧ W.cell? ⟨p4, 2, none⟩ = some (.int .i64 (-1)) ∧ W.cell? ⟨p6, 0, none⟩ = some (.bool false) ∧ W.cell? ⟨p6, 1, none⟩ = some (.string ⟨#[53]⟩) ∧ W.cell? ⟨p6, 2, none⟩ = some (.int .i64 0)) ∧ ((p2 < W.heap.size ∧ p4 < W.heap.size ∧ p6 < W.heap.size) ∧ Below b0 w W)) (first | exact ⟨ST.out.1, ST.out.2.1, ST.out.2.2.drew⟩ | exact KS.out _ _ (by assumption) (by assumption)) (first | (go_at_call 26; refine (dec_any _ _ _ _).mono ?_; rintro e wz ⟨rfl, hbz⟩))
    all_goals
      go_wp2_with fail
      go_meet
      exact ⟨rfl, (by have h : (wz.cell? ⟨p2, 0, none⟩ = some (.bool true) ∧ wz.cell? ⟨p2, 1, none⟩ = some (.string ⟨#[49, 50, 53]⟩) ∧ wz.cell? ⟨p2, 2, none⟩ = some (.int .i64 (-4)) ∧ wz.cell? ⟨p4, 0, none⟩ = some (.bool false) ∧ wz.cell? ⟨p4, 1, none⟩ = some (.string ⟨#[53]⟩) ∧ wz.cell? ⟨p4, 2, none⟩ = some (.int .i64 (-1)) ∧ wz.cell? ⟨p6, 0, none⟩ = some (.bool false) ∧ wz.cell? ⟨p6, 1, none⟩ = some (.string ⟨#[53]⟩) ∧ wz.cell? ⟨p6, 2, none⟩ = some (.int .i64 0)) ∧ ((p2 < wz.heap.size ∧ p4 < wz.heap.size ∧ p6 < wz.heap.size) ∧ Below b0 w wz) := by assumption
                      exact h.2.2)⟩
  case rest =>
  obtain ⟨rfl, HBR⟩ := hcut
  clear ST KS HB12
  go_upto_if 246 with fail
  go_cut [] (fun wx => Hid (Below b0 w wx))
  case first =>
    go_wp2
    go_meet
    exact HBR
  case rest =>
  apply_assumption
  exact seg5 VIA TB hcut
set_option maxRecDepth 1000000 in
set_option maxHeartbeats 16000000 in
theorem seg3 {w wr : World} {b0 : Nat} (VIA : Hid (∀ X x : World, Below b0 w X → Below X.heap.size X x → Below b0 w x)) (TB : Hid (∀ X : World, Below b0 w X → Tabs X)) (HB0 : Hid (Below b0 w wr)) {c0 c1 c2 c3 c4 c5 c6 c7 c8 c9 c10 c11 c12 c13 c14 c15 c16 c17 c18 c19 c20 c21 c22 c23 c24 c25 c26 c27 c28 c29 c30 c31 c32 c33 c34 c35 c36 c37 c38 c39 c40 c41 c42 c43 c44 c45 c46 c47 c48 c49 c50 c51 c52 c53 c54 c55 c56 c57 c58 c59 c60 c61 c62 c63 c64 c65 c66 c67 c68 c69 c70 c71 c72 c73 c74 c75 c76 c77 c78 c79 c80 c81 c82 c83 c84 c85 c86 c87 c88 c89 c90 c91 c92 c93 c94 c95 c96 c97 c98 c99 c100 c101 c102 c103 c104 c105 c106 c107 c108 c109 c110 c111 c112 c113 c114 c115 c116 c117 c118 c119 c120 c121 c122 c123 c124 c125 c126 c127 c128 c129 c130 c131 c132 c133 c134 c135 c136 c137 c138 c139 c140 c141 c142 c143 c144 c145 c146 c147 c148 c149 c150 c151 c152 c153 c154 c155 c156 c157 c158 c159 c160 c161 c162 c163 c164 c165 c166 c167 c168 c169 c170 c171 c172 c173 c174 c175 c176 c177 c178 c179 c180 c181 c182 c183 c184 c185 c186 c187 c188 c189 c190 c191 c192 c193 c194 c195 c196 c197 c198 c199 c200 c201 c202 c203 c204 c205 c206 c207 c208 c209 c210 c211 c212 c213 c214 c215 c216 c217 c218 c219 c220 c221 c222 c223 c224 c225 c226 c227 c228 c229 c230 c231 c232 c233 c234 c235 c236 c237 c238 c239 c240 c241 c242 c243 c244 c245 c246 c247 c248 c249 c250 c251 c252 c253 c254 c255 c256 c257 c258 c259 c260 c261 c262 c263 c264 c265 c266 c267 c268 c269 c270 c271 c272 c273 c274 c275 c276 c277 c278 c279 c280 : Value} :
    Code.wp Tryd.prog (sdrop 11 shownBody) (bodyPost Tryd.prog Tryd.f9 fun e w' => e = .returned (.bool true) ∧ Below b0 w w') ⟨#[c0, c1, c2, c3, c4, c5, c6, c7, c8, c9, c10, c11, c12, c13, c14, c15, c16, c17, c18, c19, c20, c21, c22, c23, c24, c25, c26, c27, c28, c29, c30, c31, c32, c33, c34, c35, c36, c37, c38, c39, c40, c41, c42, c43, c44, c45, c46, c47, c48, c49, c50, c51, c52, c53, c54, c55, c56, c57, c58, c59, c60, c61, c62, c63, c64, c65, c66, c67, c68, c69, c70, c71, c72, c73, c74, c75, c76, c77, c78, c79, c80, c81, c82, c83, c84, c85, c86, c87, c88, c89, c90, c91, c92, c93, c94, c95, c96, c97, c98, c99, c100, c101, c102, c103, c104, c105, c106, c107, c108, c109, c110, c111, c112, c113, c114, c115, c116, c117, c118, c119, c120, c121, c122, c123, c124, c125, c126, c127, c128, c129, c130, c131, c132, c133, c134, c135, c136, c137, c138, c139, c140, c141, c142, c143, c144, c145, c146, c147, c148, c149, c150, c151, c152, c153, c154, c155, c156, c157, c158, c159, c160, c161, c162, c163, c164, c165, c166, c167, c168, c169, c170, c171, c172, c173, c174, c175, c176, c177, c178, c179, c180, c181, c182, c183, c184, c185, c186, c187, c188, c189, c190, c191, c192, c193, c194, c195, c196, c197, c198, c199, c200, c201, c202, c203, c204, c205, c206, c207, c208, c209, c210, c211, c212, c213, c214, c215, c216, c217, c218, c219, c220, c221, c222, c223, c224, c225, c226, c227, c228, c229, c230, c231, c232, c233, c234, c235, c236, c237, c238, c239, c240, c241, c242, c243, c244, c245, c246, c247, c248, c249, c250, c251, c252, c253, c254, c255, c256, c257, c258, c259, c260, c261, c262, c263, c264, c265, c266, c267, c268, c269, c270, c271, c272, c273, c274, c275, c276, c277, c278, c279, c280], []⟩ wr := by
  conv => arg 2; whnf
  go_wp2_with fail
  refine (dec_any false ⟨#[50, 53]⟩ (-1) _).mono ?_
  rintro e v1 ⟨rfl, hbn⟩
  have HB1 : Hid (Below b0 w v1) := VIA.out _ _ HB0.out hbn
  clear hbn HB0
  go_wp2_with fail
  refine (ex_o _).mono ?_
  rintro e v2 ⟨rfl, hbn⟩
  have HB2 : Hid (Below b0 w v2) := VIA.out _ _ HB1.out hbn
  clear hbn HB1
  go_wp2_with fail
  generalize hal : v2.alloc (.cells #[.bool false, .string ⟨#[50]⟩, .int .i64 (0)] 23) = v3
  have hbn := al1 v2 (.cells #[.bool false, .string ⟨#[50]⟩, .int .i64 (0)] 23)
  rw [hal] at hbn
  have nbx := BoxD.new v2 false ⟨#[50]⟩ (0)
  rw [hal] at nbx
  have nbz : v2.heap.size < v3.heap.size := by rw [← hal]; simp
  have HB3 : Hid (Below b0 w v3) := VIA.out _ _ HB2.out hbn
  clear hbn HB2
  obtain ⟨p3, hp⟩ : ∃ b, v2.heap.size = b := ⟨_, rfl⟩
  rw [hp] at nbx nbz ⊢
  have BX3 := Lib.hid nbx; have BZ3 := Lib.hid nbz
  clear nbx nbz
  clear hp hal
  refine (dec_any true ⟨#[52]⟩ (-1) _).mono ?_
  rintro e v4 ⟨rfl, hbn⟩
  have HB4 : Hid (Below b0 w v4) := VIA.out _ _ HB3.out hbn
  have bx := BX3.out.on hbn BZ3.out
  have bz : p3 < v4.heap.size := Nat.lt_of_lt_of_le BZ3.out hbn.size
  clear BX3 BZ3
  have BX3 := Lib.hid bx; have BZ3 := Lib.hid bz
  clear bx bz
  clear hbn HB3
  go_wp2_with fail
  refine (ex_q _).mono ?_
  rintro e v5 ⟨rfl, hbn⟩
  have HB5 : Hid (Below b0 w v5) := VIA.out _ _ HB4.out hbn
  have bx := BX3.out.on hbn BZ3.out
  have bz : p3 < v5.heap.size := Nat.lt_of_lt_of_le BZ3.out hbn.size
  clear BX3 BZ3
  have BX3 := Lib.hid bx; have BZ3 := Lib.hid bz
  clear bx bz
  clear hbn HB4
  go_wp2_with fail
  generalize hal : v5.alloc (.cells #[.bool true, .string ⟨#[]⟩, .int .i64 (0)] 23) = v6
  have hbn := al1 v5 (.cells #[.bool true, .string ⟨#[]⟩, .int .i64 (0)] 23)
  rw [hal] at hbn
  have nbx := BoxD.new v5 true ⟨#[]⟩ (0)
  rw [hal] at nbx
  have nbz : v5.heap.size < v6.heap.size := by rw [← hal]; simp
  have HB6 : Hid (Below b0 w v6) := VIA.out _ _ HB5.out hbn
  have bx := BX3.out.on hbn BZ3.out
  have bz : p3 < v6.heap.size := Nat.lt_of_lt_of_le BZ3.out hbn.size
  clear BX3 BZ3
  have BX3 := Lib.hid bx; have BZ3 := Lib.hid bz
  clear bx bz
  clear hbn HB5
  obtain ⟨p6, hp⟩ : ∃ b, v5.heap.size = b := ⟨_, rfl⟩
  rw [hp] at nbx nbz ⊢
  have BX6 := Lib.hid nbx; have BZ6 := Lib.hid nbz
  clear nbx nbz
  clear hp hal
  refine (dec_any false ⟨#[49, 50, 53]⟩ (1) _).mono ?_
  rintro e v7 ⟨rfl, hbn⟩
  have HB7 : Hid (Below b0 w v7) := VIA.out _ _ HB6.out hbn
  have bx := BX3.out.on hbn BZ3.out
  have bz : p3 < v7.heap.size := Nat.lt_of_lt_of_le BZ3.out hbn.size
  clear BX3 BZ3
  have BX3 := Lib.hid bx; have BZ3 := Lib.hid bz
  clear bx bz
  have bx := BX6.out.on hbn BZ6.out
  have bz : p6 < v7.heap.size := Nat.lt_of_lt_of_le BZ6.out hbn.size
  clear BX6 BZ6
  have BX6 := Lib.hid bx; have BZ6 := Lib.hid bz
  clear bx bz
  clear hbn HB6
  go_wp2_with fail
  refine (ex_s _).mono ?_
  rintro e v8 ⟨rfl, hbn⟩
  have HB8 : Hid (Below b0 w v8) := VIA.out _ _ HB7.out hbn
  have bx := BX3.out.on hbn BZ3.out
  have bz : p3 < v8.heap.size := Nat.lt_of_lt_of_le BZ3.out hbn.size
  clear BX3 BZ3
  have BX3 := Lib.hid bx; have BZ3 := Lib.hid bz
  clear bx bz
  have bx := BX6.out.on hbn BZ6.out
  have bz : p6 < v8.heap.size := Nat.lt_of_lt_of_le BZ6.out hbn.size
  clear BX6 BZ6
  have BX6 := Lib.hid bx; have BZ6 := Lib.hid bz
  clear bx bz
  clear hbn HB7
  go_wp2_with fail
  generalize hal : v8.alloc (.cells #[.bool false, .string ⟨#[49, 50]⟩, .int .i64 (2)] 23) = v9
  have hbn := al1 v8 (.cells #[.bool false, .string ⟨#[49, 50]⟩, .int .i64 (2)] 23)
  rw [hal] at hbn
  have nbx := BoxD.new v8 false ⟨#[49, 50]⟩ (2)
  rw [hal] at nbx
  have nbz : v8.heap.size < v9.heap.size := by rw [← hal]; simp
  have HB9 : Hid (Below b0 w v9) := VIA.out _ _ HB8.out hbn
  have bx := BX3.out.on hbn BZ3.out
  have bz : p3 < v9.heap.size := Nat.lt_of_lt_of_le BZ3.out hbn.size
  clear BX3 BZ3
  have BX3 := Lib.hid bx; have BZ3 := Lib.hid bz
  clear bx bz
  have bx := BX6.out.on hbn BZ6.out
  have bz : p6 < v9.heap.size := Nat.lt_of_lt_of_le BZ6.out hbn.size
  clear BX6 BZ6
  have BX6 := Lib.hid bx; have BZ6 := Lib.hid bz
  clear bx bz
  clear hbn HB8
  obtain ⟨p9, hp⟩ : ∃ b, v8.heap.size = b := ⟨_, rfl⟩
  rw [hp] at nbx nbz ⊢
  have BX9 := Lib.hid nbx; have BZ9 := Lib.hid nbz
  clear nbx nbz
  clear hp hal
  refine (dec_any false ⟨#[49]⟩ (-3) _).mono ?_
  rintro e v10 ⟨rfl, hbn⟩
  have HB10 : Hid (Below b0 w v10) := VIA.out _ _ HB9.out hbn
  have bx := BX3.out.on hbn BZ3.out
  have bz : p3 < v10.heap.size := Nat.lt_of_lt_of_le BZ3.out hbn.size
  clear BX3 BZ3
  have BX3 := Lib.hid bx; have BZ3 := Lib.hid bz
  clear bx bz
  have bx := BX6.out.on hbn BZ6.out
  have bz : p6 < v10.heap.size := Nat.lt_of_lt_of_le BZ6.out hbn.size
  clear BX6 BZ6
  have BX6 := Lib.hid bx; have BZ6 := Lib.hid bz
  clear bx bz
  have bx := BX9.out.on hbn BZ9.out
  have bz : p9 < v10.heap.size := Nat.lt_of_lt_of_le BZ9.out hbn.size
  clear BX9 BZ9
  have BX9 := Lib.hid bx; have BZ9 := Lib.hid bz
  clear bx bz
  clear hbn HB9
  go_wp2_with fail
  refine (ex_u _).mono ?_
  rintro e v11 ⟨rfl, hbn⟩
  have HB11 : Hid (Below b0 w v11) := VIA.out _ _ HB10.out hbn
  have bx := BX3.out.on hbn BZ3.out
  have bz : p3 < v11.heap.size := Nat.lt_of_lt_of_le BZ3.out hbn.size
  clear BX3 BZ3
  have BX3 := Lib.hid bx; have BZ3 := Lib.hid bz
  clear bx bz
  have bx := BX6.out.on hbn BZ6.out
  have bz : p6 < v11.heap.size := Nat.lt_of_lt_of_le BZ6.out hbn.size
  clear BX6 BZ6
  have BX6 := Lib.hid bx; have BZ6 := Lib.hid bz
  clear bx bz
  have bx := BX9.out.on hbn BZ9.out
  have bz : p9 < v11.heap.size := Nat.lt_of_lt_of_le BZ9.out hbn.size
  clear BX9 BZ9
  have BX9 := Lib.hid bx; have BZ9 := Lib.hid bz
  clear bx bz
  clear hbn HB10
  go_upto_region 17 with fail
  generalize hal : v11.alloc (.cells #[.bool false, .string ⟨#[49]⟩, .int .i64 ((-2))] 23) = v12
  have hbn := al1 v11 (.cells #[.bool false, .string ⟨#[49]⟩, .int .i64 ((-2))] 23)
  rw [hal] at hbn
  have nbx := BoxD.new v11 false ⟨#[49]⟩ ((-2))
  rw [hal] at nbx
  have nbz : v11.heap.size < v12.heap.size := by rw [← hal]; simp
  have HB12 : Hid (Below b0 w v12) := VIA.out _ _ HB11.out hbn
  have bx := BX3.out.on hbn BZ3.out
  have bz : p3 < v12.heap.size := Nat.lt_of_lt_of_le BZ3.out hbn.size
  clear BX3 BZ3
  have BX3 := Lib.hid bx; have BZ3 := Lib.hid bz
  clear bx bz
  have bx := BX6.out.on hbn BZ6.out
  have bz : p6 < v12.heap.size := Nat.lt_of_lt_of_le BZ6.out hbn.size
  clear BX6 BZ6
  have BX6 := Lib.hid bx; have BZ6 := Lib.hid bz
  clear bx bz
  have bx := BX9.out.on hbn BZ9.out
  have bz : p9 < v12.heap.size := Nat.lt_of_lt_of_le BZ9.out hbn.size
  clear BX9 BZ9
  have BX9 := Lib.hid bx; have BZ9 := Lib.hid bz
  clear bx bz
  clear hbn HB11
  obtain ⟨p12, hp⟩ : ∃ b, v11.heap.size = b := ⟨_, rfl⟩
  rw [hp] at nbx nbz ⊢
  have BX12 := Lib.hid nbx; have BZ12 := Lib.hid nbz
  clear nbx nbz
  clear hp hal
  obtain ⟨c30, c31, c32⟩ := BX3.out
  have m3 := BZ3.out
  obtain ⟨c60, c61, c62⟩ := BX6.out
  have m6 := BZ6.out
  obtain ⟨c90, c91, c92⟩ := BX9.out
  have m9 := BZ9.out
  obtain ⟨c120, c121, c122⟩ := BX12.out
  have m12 := BZ12.out
  have ST : Hid ((v12.cell? ⟨p3, 0, none⟩ = some (.bool false) ∧ v12.cell? ⟨p3, 1, none⟩ = some (.string ⟨#[50]⟩) ∧ v12.cell? ⟨p3, 2, none⟩ = some (.int .i64 0) ∧ v12.cell? ⟨p6, 0, none⟩ = some (.bool true) ∧ v12.cell? ⟨p6, 1, none⟩ = some (.string ⟨#[]⟩) ∧ v12.cell? ⟨p6, 2, none⟩ = some (.int .i64 0) ∧ v12.cell? ⟨p9, 0, none⟩ = some (.bool false) ∧ v12.cell? ⟨p9, 1, none⟩ = some (.string ⟨#[49, 50]⟩) ∧ v12.cell? ⟨p9, 2, none⟩ = some (.int .i64 2) ∧ v12.cell? ⟨p12, 0, none⟩ = some (.bool false) ∧ v12.cell? ⟨p12, 1, none⟩ = some (.string ⟨#[49]⟩) ∧ v12.cell? ⟨p12, 2, none⟩ = some (.int .i64 (-2))) ∧ ((p3 < v12.heap.size ∧ p6 < v12.heap.size ∧ p9 < v12.heap.size ∧ p12 < v12.heap.size) ∧ Below b0 w v12)) := ⟨⟨c30, c31, c32, c60, c61, c62, c90, c91, c92, c120, c121, c122⟩, ⟨m3, m6, m9, m12⟩, HB12.out⟩
  clear c30 c31 c32 m3 BX3 BZ3 c60 c61 c62 m6 BX6 BZ6 c90 c91 c92 m9 BX9 BZ9 c120 c121 c122 m12 BX12 BZ12
  have KS : Hid (∀ A Z : World, ((A.cell? ⟨p3, 0, none⟩ = some (.bool false) ∧ A.cell? ⟨p3, 1, none⟩ = some (.string ⟨#[50]⟩) ∧ A.cell? ⟨p3, 2, none⟩ = some (.int .i64 0) ∧ A.cell? ⟨p6, 0, none⟩ = some (.bool true) ∧ A.cell? ⟨p6, 1, none⟩ = some (.string ⟨#[]⟩) ∧ A.cell? ⟨p6, 2, none⟩ = some (.int .i64 0) ∧ A.cell? ⟨p9, 0, none⟩ = some (.bool false) ∧ A.cell? ⟨p9, 1, none⟩ = some (.string ⟨#[49, 50]⟩) ∧ A.cell? ⟨p9, 2, none⟩ = some (.int .i64 2) ∧ A.cell? ⟨p12, 0, none⟩ = some (.bool false) ∧ A.cell? ⟨p12, 1, none⟩ = some (.string ⟨#[49]⟩) ∧ A.cell? ⟨p12, 2, none⟩ = some (.int .i64 (-2))) ∧ ((p3 < A.heap.size ∧ p6 < A.heap.size ∧ p9 < A.heap.size ∧ p12 < A.heap.size) ∧ Below b0 w A)) → Below A.heap.size A Z → ((Z.cell? ⟨p3, 0, none⟩ = some (.bool false) ∧ Z.cell? ⟨p3, 1, none⟩ = some (.string ⟨#[50]⟩) ∧ Z.cell? ⟨p3, 2, none⟩ = some (.int .i64 0) ∧ Z.cell? ⟨p6, 0, none⟩ = some (.bool true) ∧ Z.cell? ⟨p6, 1, none⟩ = some (.string ⟨#[]⟩) ∧ Z.cell? ⟨p6, 2, none⟩ = some (.int .i64 0) ∧ Z.cell? ⟨p9, 0, none⟩ = some (.bool false) ∧ Z.cell? ⟨p9, 1, none⟩ = some (.string ⟨#[49, 50]⟩) ∧ Z.cell? ⟨p9, 2, none⟩ = some (.int .i64 2) ∧ Z.cell? ⟨p12, 0, none⟩ = some (.bool false) ∧ Z.cell? ⟨p12, 1, none⟩ = some (.string ⟨#[49]⟩) ∧ Z.cell? ⟨p12, 2, none⟩ = some (.int .i64 (-2))) ∧ ((p3 < Z.heap.size ∧ p6 < Z.heap.size ∧ p9 < Z.heap.size ∧ p12 < Z.heap.size) ∧ Below b0 w Z))) := by
    rintro A Z ⟨⟨h0, h1, h2, h3, h4, h5, h6, h7, h8, h9, h10, h11⟩, ⟨l0, l1, l2, l3⟩, hb⟩ hx
    have hz := hx.size
    refine ⟨⟨(hx.cell (p := ⟨p3, 0, none⟩) l0).trans h0, (hx.cell (p := ⟨p3, 1, none⟩) l0).trans h1, (hx.cell (p := ⟨p3, 2, none⟩) l0).trans h2, (hx.cell (p := ⟨p6, 0, none⟩) l1).trans h3, (hx.cell (p := ⟨p6, 1, none⟩) l1).trans h4, (hx.cell (p := ⟨p6, 2, none⟩) l1).trans h5, (hx.cell (p := ⟨p9, 0, none⟩) l2).trans h6, (hx.cell (p := ⟨p9, 1, none⟩) l2).trans h7, (hx.cell (p := ⟨p9, 2, none⟩) l2).trans h8, (hx.cell (p := ⟨p12, 0, none⟩) l3).trans h9, (hx.cell (p := ⟨p12, 1, none⟩) l3).trans h10, (hx.cell (p := ⟨p12, 2, none⟩) l3).trans h11⟩, ⟨by omega, by omega, by omega, by omega⟩, VIA.out _ _ hb hx⟩
  go_cut [185] (fun sv wx => sv = .bool false ∧ Hid (Below b0 w wx))
  case first =>
    go_region_held3 (fun W => (W.cell? ⟨p3, 0, none⟩ = some (.bool false) ∧ W.cell? ⟨p3, 1, none⟩ = some (.string ⟨#[50]⟩) ∧ W.cell? ⟨p3, 2, none⟩ = some (.int .i64 0) ∧ W.cell? ⟨p6, 0, none⟩ = some (.bool true) ∧ W.cell? ⟨p6, 1, none⟩ = some (.string ⟨#[]⟩) ∧ W.cell? ⟨p6, 2, none⟩ = some (.int .i64 0) ∧ W.cell? ⟨p9, 0, none⟩ = some (.bool false) ∧ W.cell? ⟨p9, 1, none⟩ = some (.string ⟨#[49, 50]⟩) ∧ W.cell? ⟨p9, 2, none⟩ = some (.int .i64 2) ∧ W.cell? ⟨p12, 0, none⟩ = some (.bool false) ∧ W.cell? ⟨p12, 1, none⟩ = some (.string ⟨#[49]⟩) ∧ W.cell? ⟨p12, 2, none⟩ = some (.int .i64 (-2))) ∧ ((p3 < W.heap.size ∧ p6 < W.heap.size ∧ p9 < W.heap.size ∧ p12 < W.heap.size) ∧ Below b0 w W)) (first | exact ⟨ST.out.1, ST.out.2.1, ST.out.2.2.drew⟩ | exact KS.out _ _ (by assumption) (by assumption)) (first | (go_at_call 26; refine (dec_any _ _ _ _).mono ?_; rintro e wz ⟨rfl, hbz⟩))
    all_goals
      go_wp2_with fail
      go_meet
      exact ⟨rfl, (by have h : (wz.cell? ⟨p3, 0, none⟩ = some (.bool false) ∧ wz.cell? ⟨p3, 1, none⟩ = some (.string ⟨#[50]⟩) ∧ wz.cell? ⟨p3, 2, none⟩ = some (.int .i64 0) ∧ wz.cell? ⟨p6, 0, none⟩ = some (.bool true) ∧ wz.cell? ⟨p6, 1, none⟩ = some (.string ⟨#[]⟩) ∧ wz.cell? ⟨p6, 2, none⟩ = some (.int .i64 0) ∧ wz.cell? ⟨p9, 0, none⟩ = some (.bool false) ∧ wz.cell? ⟨p9, 1, none⟩ = some (.string ⟨#[49, 50]⟩) ∧ wz.cell? ⟨p9, 2, none⟩ = some (.int .i64 2) ∧ wz.cell? ⟨p12, 0, none⟩ = some (.bool false) ∧ wz.cell? ⟨p12, 1, none⟩ = some (.string ⟨#[49]⟩) ∧ wz.cell? ⟨p12, 2, none⟩ = some (.int .i64 (-2))) ∧ ((p3 < wz.heap.size ∧ p6 < wz.heap.size ∧ p9 < wz.heap.size ∧ p12 < wz.heap.size) ∧ Below b0 w wz) := by assumption
                      exact h.2.2)⟩
  case rest =>
  obtain ⟨rfl, HBR⟩ := hcut
  clear ST KS HB12
  go_upto_if 185 with fail
  go_cut [] (fun wx => Hid (Below b0 w wx))
  case first =>
    go_wp2
    go_meet
    exact HBR
  case rest =>
  apply_assumption
  exact seg4 VIA TB hcut
set_option maxRecDepth 1000000 in
set_option maxHeartbeats 16000000 in
theorem seg2 {w wr : World} {b0 : Nat} (VIA : Hid (∀ X x : World, Below b0 w X → Below X.heap.size X x → Below b0 w x)) (TB : Hid (∀ X : World, Below b0 w X → Tabs X)) (HB0 : Hid (Below b0 w wr)) {c0 c1 c2 c3 c4 c5 c6 c7 c8 c9 c10 c11 c12 c13 c14 c15 c16 c17 c18 c19 c20 c21 c22 c23 c24 c25 c26 c27 c28 c29 c30 c31 c32 c33 c34 c35 c36 c37 c38 c39 c40 c41 c42 c43 c44 c45 c46 c47 c48 c49 c50 c51 c52 c53 c54 c55 c56 c57 c58 c59 c60 c61 c62 c63 c64 c65 c66 c67 c68 c69 c70 c71 c72 c73 c74 c75 c76 c77 c78 c79 c80 c81 c82 c83 c84 c85 c86 c87 c88 c89 c90 c91 c92 c93 c94 c95 c96 c97 c98 c99 c100 c101 c102 c103 c104 c105 c106 c107 c108 c109 c110 c111 c112 c113 c114 c115 c116 c117 c118 c119 c120 c121 c122 c123 c124 c125 c126 c127 c128 c129 c130 c131 c132 c133 c134 c135 c136 c137 c138 c139 c140 c141 c142 c143 c144 c145 c146 c147 c148 c149 c150 c151 c152 c153 c154 c155 c156 c157 c158 c159 c160 c161 c162 c163 c164 c165 c166 c167 c168 c169 c170 c171 c172 c173 c174 c175 c176 c177 c178 c179 c180 c181 c182 c183 c184 c185 c186 c187 c188 c189 c190 c191 c192 c193 c194 c195 c196 c197 c198 c199 c200 c201 c202 c203 c204 c205 c206 c207 c208 c209 c210 c211 c212 c213 c214 c215 c216 c217 c218 c219 c220 c221 c222 c223 c224 c225 c226 c227 c228 c229 c230 c231 c232 c233 c234 c235 c236 c237 c238 c239 c240 c241 c242 c243 c244 c245 c246 c247 c248 c249 c250 c251 c252 c253 c254 c255 c256 c257 c258 c259 c260 c261 c262 c263 c264 c265 c266 c267 c268 c269 c270 c271 c272 c273 c274 c275 c276 c277 c278 c279 c280 : Value} :
    Code.wp Tryd.prog (sdrop 6 shownBody) (bodyPost Tryd.prog Tryd.f9 fun e w' => e = .returned (.bool true) ∧ Below b0 w w') ⟨#[c0, c1, c2, c3, c4, c5, c6, c7, c8, c9, c10, c11, c12, c13, c14, c15, c16, c17, c18, c19, c20, c21, c22, c23, c24, c25, c26, c27, c28, c29, c30, c31, c32, c33, c34, c35, c36, c37, c38, c39, c40, c41, c42, c43, c44, c45, c46, c47, c48, c49, c50, c51, c52, c53, c54, c55, c56, c57, c58, c59, c60, c61, c62, c63, c64, c65, c66, c67, c68, c69, c70, c71, c72, c73, c74, c75, c76, c77, c78, c79, c80, c81, c82, c83, c84, c85, c86, c87, c88, c89, c90, c91, c92, c93, c94, c95, c96, c97, c98, c99, c100, c101, c102, c103, c104, c105, c106, c107, c108, c109, c110, c111, c112, c113, c114, c115, c116, c117, c118, c119, c120, c121, c122, c123, c124, c125, c126, c127, c128, c129, c130, c131, c132, c133, c134, c135, c136, c137, c138, c139, c140, c141, c142, c143, c144, c145, c146, c147, c148, c149, c150, c151, c152, c153, c154, c155, c156, c157, c158, c159, c160, c161, c162, c163, c164, c165, c166, c167, c168, c169, c170, c171, c172, c173, c174, c175, c176, c177, c178, c179, c180, c181, c182, c183, c184, c185, c186, c187, c188, c189, c190, c191, c192, c193, c194, c195, c196, c197, c198, c199, c200, c201, c202, c203, c204, c205, c206, c207, c208, c209, c210, c211, c212, c213, c214, c215, c216, c217, c218, c219, c220, c221, c222, c223, c224, c225, c226, c227, c228, c229, c230, c231, c232, c233, c234, c235, c236, c237, c238, c239, c240, c241, c242, c243, c244, c245, c246, c247, c248, c249, c250, c251, c252, c253, c254, c255, c256, c257, c258, c259, c260, c261, c262, c263, c264, c265, c266, c267, c268, c269, c270, c271, c272, c273, c274, c275, c276, c277, c278, c279, c280], []⟩ wr := by
  conv => arg 2; whnf
  go_wp2_with fail
  refine (dec_any false ⟨#[49, 50, 51, 52, 53]⟩ (0) _).mono ?_
  rintro e v1 ⟨rfl, hbn⟩
  have HB1 : Hid (Below b0 w v1) := VIA.out _ _ HB0.out hbn
  clear hbn HB0
  go_wp2_with fail
  refine (ex_c _).mono ?_
  rintro e v2 ⟨rfl, hbn⟩
  have HB2 : Hid (Below b0 w v2) := VIA.out _ _ HB1.out hbn
  clear hbn HB1
  go_wp2_with fail
  generalize hal : v2.alloc (.cells #[.bool false, .string ⟨#[49, 50, 51]⟩, .int .i64 (2)] 23) = v3
  have hbn := al1 v2 (.cells #[.bool false, .string ⟨#[49, 50, 51]⟩, .int .i64 (2)] 23)
  rw [hal] at hbn
  have nbx := BoxD.new v2 false ⟨#[49, 50, 51]⟩ (2)
  rw [hal] at nbx
  have nbz : v2.heap.size < v3.heap.size := by rw [← hal]; simp
  have HB3 : Hid (Below b0 w v3) := VIA.out _ _ HB2.out hbn
  clear hbn HB2
  obtain ⟨p3, hp⟩ : ∃ b, v2.heap.size = b := ⟨_, rfl⟩
  rw [hp] at nbx nbz ⊢
  have BX3 := Lib.hid nbx; have BZ3 := Lib.hid nbz
  clear nbx nbz
  clear hp hal
  refine (dec_any false ⟨#[49, 50, 51, 53]⟩ (1) _).mono ?_
  rintro e v4 ⟨rfl, hbn⟩
  have HB4 : Hid (Below b0 w v4) := VIA.out _ _ HB3.out hbn
  have bx := BX3.out.on hbn BZ3.out
  have bz : p3 < v4.heap.size := Nat.lt_of_lt_of_le BZ3.out hbn.size
  clear BX3 BZ3
  have BX3 := Lib.hid bx; have BZ3 := Lib.hid bz
  clear bx bz
  clear hbn HB3
  go_wp2_with fail
  refine (ex_d _).mono ?_
  rintro e v5 ⟨rfl, hbn⟩
  have HB5 : Hid (Below b0 w v5) := VIA.out _ _ HB4.out hbn
  have bx := BX3.out.on hbn BZ3.out
  have bz : p3 < v5.heap.size := Nat.lt_of_lt_of_le BZ3.out hbn.size
  clear BX3 BZ3
  have BX3 := Lib.hid bx; have BZ3 := Lib.hid bz
  clear bx bz
  clear hbn HB4
  go_wp2_with fail
  generalize hal : v5.alloc (.cells #[.bool false, .string ⟨#[49, 50, 52]⟩, .int .i64 (2)] 23) = v6
  have hbn := al1 v5 (.cells #[.bool false, .string ⟨#[49, 50, 52]⟩, .int .i64 (2)] 23)
  rw [hal] at hbn
  have nbx := BoxD.new v5 false ⟨#[49, 50, 52]⟩ (2)
  rw [hal] at nbx
  have nbz : v5.heap.size < v6.heap.size := by rw [← hal]; simp
  have HB6 : Hid (Below b0 w v6) := VIA.out _ _ HB5.out hbn
  have bx := BX3.out.on hbn BZ3.out
  have bz : p3 < v6.heap.size := Nat.lt_of_lt_of_le BZ3.out hbn.size
  clear BX3 BZ3
  have BX3 := Lib.hid bx; have BZ3 := Lib.hid bz
  clear bx bz
  clear hbn HB5
  obtain ⟨p6, hp⟩ : ∃ b, v5.heap.size = b := ⟨_, rfl⟩
  rw [hp] at nbx nbz ⊢
  have BX6 := Lib.hid nbx; have BZ6 := Lib.hid nbz
  clear nbx nbz
  clear hp hal
  refine (dec_any true ⟨#[49, 50, 51, 53]⟩ (1) _).mono ?_
  rintro e v7 ⟨rfl, hbn⟩
  have HB7 : Hid (Below b0 w v7) := VIA.out _ _ HB6.out hbn
  have bx := BX3.out.on hbn BZ3.out
  have bz : p3 < v7.heap.size := Nat.lt_of_lt_of_le BZ3.out hbn.size
  clear BX3 BZ3
  have BX3 := Lib.hid bx; have BZ3 := Lib.hid bz
  clear bx bz
  have bx := BX6.out.on hbn BZ6.out
  have bz : p6 < v7.heap.size := Nat.lt_of_lt_of_le BZ6.out hbn.size
  clear BX6 BZ6
  have BX6 := Lib.hid bx; have BZ6 := Lib.hid bz
  clear bx bz
  clear hbn HB6
  go_wp2_with fail
  refine (ex_k _).mono ?_
  rintro e v8 ⟨rfl, hbn⟩
  have HB8 : Hid (Below b0 w v8) := VIA.out _ _ HB7.out hbn
  have bx := BX3.out.on hbn BZ3.out
  have bz : p3 < v8.heap.size := Nat.lt_of_lt_of_le BZ3.out hbn.size
  clear BX3 BZ3
  have BX3 := Lib.hid bx; have BZ3 := Lib.hid bz
  clear bx bz
  have bx := BX6.out.on hbn BZ6.out
  have bz : p6 < v8.heap.size := Nat.lt_of_lt_of_le BZ6.out hbn.size
  clear BX6 BZ6
  have BX6 := Lib.hid bx; have BZ6 := Lib.hid bz
  clear bx bz
  clear hbn HB7
  go_wp2_with fail
  generalize hal : v8.alloc (.cells #[.bool true, .string ⟨#[49, 50, 52]⟩, .int .i64 (2)] 23) = v9
  have hbn := al1 v8 (.cells #[.bool true, .string ⟨#[49, 50, 52]⟩, .int .i64 (2)] 23)
  rw [hal] at hbn
  have nbx := BoxD.new v8 true ⟨#[49, 50, 52]⟩ (2)
  rw [hal] at nbx
  have nbz : v8.heap.size < v9.heap.size := by rw [← hal]; simp
  have HB9 : Hid (Below b0 w v9) := VIA.out _ _ HB8.out hbn
  have bx := BX3.out.on hbn BZ3.out
  have bz : p3 < v9.heap.size := Nat.lt_of_lt_of_le BZ3.out hbn.size
  clear BX3 BZ3
  have BX3 := Lib.hid bx; have BZ3 := Lib.hid bz
  clear bx bz
  have bx := BX6.out.on hbn BZ6.out
  have bz : p6 < v9.heap.size := Nat.lt_of_lt_of_le BZ6.out hbn.size
  clear BX6 BZ6
  have BX6 := Lib.hid bx; have BZ6 := Lib.hid bz
  clear bx bz
  clear hbn HB8
  obtain ⟨p9, hp⟩ : ∃ b, v8.heap.size = b := ⟨_, rfl⟩
  rw [hp] at nbx nbz ⊢
  have BX9 := Lib.hid nbx; have BZ9 := Lib.hid nbz
  clear nbx nbz
  clear hp hal
  refine (dec_any false ⟨#[57, 57, 57]⟩ (-2) _).mono ?_
  rintro e v10 ⟨rfl, hbn⟩
  have HB10 : Hid (Below b0 w v10) := VIA.out _ _ HB9.out hbn
  have bx := BX3.out.on hbn BZ3.out
  have bz : p3 < v10.heap.size := Nat.lt_of_lt_of_le BZ3.out hbn.size
  clear BX3 BZ3
  have BX3 := Lib.hid bx; have BZ3 := Lib.hid bz
  clear bx bz
  have bx := BX6.out.on hbn BZ6.out
  have bz : p6 < v10.heap.size := Nat.lt_of_lt_of_le BZ6.out hbn.size
  clear BX6 BZ6
  have BX6 := Lib.hid bx; have BZ6 := Lib.hid bz
  clear bx bz
  have bx := BX9.out.on hbn BZ9.out
  have bz : p9 < v10.heap.size := Nat.lt_of_lt_of_le BZ9.out hbn.size
  clear BX9 BZ9
  have BX9 := Lib.hid bx; have BZ9 := Lib.hid bz
  clear bx bz
  clear hbn HB9
  go_wp2_with fail
  refine (ex_m _).mono ?_
  rintro e v11 ⟨rfl, hbn⟩
  have HB11 : Hid (Below b0 w v11) := VIA.out _ _ HB10.out hbn
  have bx := BX3.out.on hbn BZ3.out
  have bz : p3 < v11.heap.size := Nat.lt_of_lt_of_le BZ3.out hbn.size
  clear BX3 BZ3
  have BX3 := Lib.hid bx; have BZ3 := Lib.hid bz
  clear bx bz
  have bx := BX6.out.on hbn BZ6.out
  have bz : p6 < v11.heap.size := Nat.lt_of_lt_of_le BZ6.out hbn.size
  clear BX6 BZ6
  have BX6 := Lib.hid bx; have BZ6 := Lib.hid bz
  clear bx bz
  have bx := BX9.out.on hbn BZ9.out
  have bz : p9 < v11.heap.size := Nat.lt_of_lt_of_le BZ9.out hbn.size
  clear BX9 BZ9
  have BX9 := Lib.hid bx; have BZ9 := Lib.hid bz
  clear bx bz
  clear hbn HB10
  go_upto_region 11 with fail
  generalize hal : v11.alloc (.cells #[.bool false, .string ⟨#[49]⟩, .int .i64 (1)] 23) = v12
  have hbn := al1 v11 (.cells #[.bool false, .string ⟨#[49]⟩, .int .i64 (1)] 23)
  rw [hal] at hbn
  have nbx := BoxD.new v11 false ⟨#[49]⟩ (1)
  rw [hal] at nbx
  have nbz : v11.heap.size < v12.heap.size := by rw [← hal]; simp
  have HB12 : Hid (Below b0 w v12) := VIA.out _ _ HB11.out hbn
  have bx := BX3.out.on hbn BZ3.out
  have bz : p3 < v12.heap.size := Nat.lt_of_lt_of_le BZ3.out hbn.size
  clear BX3 BZ3
  have BX3 := Lib.hid bx; have BZ3 := Lib.hid bz
  clear bx bz
  have bx := BX6.out.on hbn BZ6.out
  have bz : p6 < v12.heap.size := Nat.lt_of_lt_of_le BZ6.out hbn.size
  clear BX6 BZ6
  have BX6 := Lib.hid bx; have BZ6 := Lib.hid bz
  clear bx bz
  have bx := BX9.out.on hbn BZ9.out
  have bz : p9 < v12.heap.size := Nat.lt_of_lt_of_le BZ9.out hbn.size
  clear BX9 BZ9
  have BX9 := Lib.hid bx; have BZ9 := Lib.hid bz
  clear bx bz
  clear hbn HB11
  obtain ⟨p12, hp⟩ : ∃ b, v11.heap.size = b := ⟨_, rfl⟩
  rw [hp] at nbx nbz ⊢
  have BX12 := Lib.hid nbx; have BZ12 := Lib.hid nbz
  clear nbx nbz
  clear hp hal
  obtain ⟨c30, c31, c32⟩ := BX3.out
  have m3 := BZ3.out
  obtain ⟨c60, c61, c62⟩ := BX6.out
  have m6 := BZ6.out
  obtain ⟨c90, c91, c92⟩ := BX9.out
  have m9 := BZ9.out
  obtain ⟨c120, c121, c122⟩ := BX12.out
  have m12 := BZ12.out
  have ST : Hid ((v12.cell? ⟨p3, 0, none⟩ = some (.bool false) ∧ v12.cell? ⟨p3, 1, none⟩ = some (.string ⟨#[49, 50, 51]⟩) ∧ v12.cell? ⟨p3, 2, none⟩ = some (.int .i64 2) ∧ v12.cell? ⟨p6, 0, none⟩ = some (.bool false) ∧ v12.cell? ⟨p6, 1, none⟩ = some (.string ⟨#[49, 50, 52]⟩) ∧ v12.cell? ⟨p6, 2, none⟩ = some (.int .i64 2) ∧ v12.cell? ⟨p9, 0, none⟩ = some (.bool true) ∧ v12.cell? ⟨p9, 1, none⟩ = some (.string ⟨#[49, 50, 52]⟩) ∧ v12.cell? ⟨p9, 2, none⟩ = some (.int .i64 2) ∧ v12.cell? ⟨p12, 0, none⟩ = some (.bool false) ∧ v12.cell? ⟨p12, 1, none⟩ = some (.string ⟨#[49]⟩) ∧ v12.cell? ⟨p12, 2, none⟩ = some (.int .i64 1)) ∧ ((p3 < v12.heap.size ∧ p6 < v12.heap.size ∧ p9 < v12.heap.size ∧ p12 < v12.heap.size) ∧ Below b0 w v12)) := ⟨⟨c30, c31, c32, c60, c61, c62, c90, c91, c92, c120, c121, c122⟩, ⟨m3, m6, m9, m12⟩, HB12.out⟩
  clear c30 c31 c32 m3 BX3 BZ3 c60 c61 c62 m6 BX6 BZ6 c90 c91 c92 m9 BX9 BZ9 c120 c121 c122 m12 BX12 BZ12
  have KS : Hid (∀ A Z : World, ((A.cell? ⟨p3, 0, none⟩ = some (.bool false) ∧ A.cell? ⟨p3, 1, none⟩ = some (.string ⟨#[49, 50, 51]⟩) ∧ A.cell? ⟨p3, 2, none⟩ = some (.int .i64 2) ∧ A.cell? ⟨p6, 0, none⟩ = some (.bool false) ∧ A.cell? ⟨p6, 1, none⟩ = some (.string ⟨#[49, 50, 52]⟩) ∧ A.cell? ⟨p6, 2, none⟩ = some (.int .i64 2) ∧ A.cell? ⟨p9, 0, none⟩ = some (.bool true) ∧ A.cell? ⟨p9, 1, none⟩ = some (.string ⟨#[49, 50, 52]⟩) ∧ A.cell? ⟨p9, 2, none⟩ = some (.int .i64 2) ∧ A.cell? ⟨p12, 0, none⟩ = some (.bool false) ∧ A.cell? ⟨p12, 1, none⟩ = some (.string ⟨#[49]⟩) ∧ A.cell? ⟨p12, 2, none⟩ = some (.int .i64 1)) ∧ ((p3 < A.heap.size ∧ p6 < A.heap.size ∧ p9 < A.heap.size ∧ p12 < A.heap.size) ∧ Below b0 w A)) → Below A.heap.size A Z → ((Z.cell? ⟨p3, 0, none⟩ = some (.bool false) ∧ Z.cell? ⟨p3, 1, none⟩ = some (.string ⟨#[49, 50, 51]⟩) ∧ Z.cell? ⟨p3, 2, none⟩ = some (.int .i64 2) ∧ Z.cell? ⟨p6, 0, none⟩ = some (.bool false) ∧ Z.cell? ⟨p6, 1, none⟩ = some (.string ⟨#[49, 50, 52]⟩) ∧ Z.cell? ⟨p6, 2, none⟩ = some (.int .i64 2) ∧ Z.cell? ⟨p9, 0, none⟩ = some (.bool true) ∧ Z.cell? ⟨p9, 1, none⟩ = some (.string ⟨#[49, 50, 52]⟩) ∧ Z.cell? ⟨p9, 2, none⟩ = some (.int .i64 2) ∧ Z.cell? ⟨p12, 0, none⟩ = some (.bool false) ∧ Z.cell? ⟨p12, 1, none⟩ = some (.string ⟨#[49]⟩) ∧ Z.cell? ⟨p12, 2, none⟩ = some (.int .i64 1)) ∧ ((p3 < Z.heap.size ∧ p6 < Z.heap.size ∧ p9 < Z.heap.size ∧ p12 < Z.heap.size) ∧ Below b0 w Z))) := by
    rintro A Z ⟨⟨h0, h1, h2, h3, h4, h5, h6, h7, h8, h9, h10, h11⟩, ⟨l0, l1, l2, l3⟩, hb⟩ hx
    have hz := hx.size
    refine ⟨⟨(hx.cell (p := ⟨p3, 0, none⟩) l0).trans h0, (hx.cell (p := ⟨p3, 1, none⟩) l0).trans h1, (hx.cell (p := ⟨p3, 2, none⟩) l0).trans h2, (hx.cell (p := ⟨p6, 0, none⟩) l1).trans h3, (hx.cell (p := ⟨p6, 1, none⟩) l1).trans h4, (hx.cell (p := ⟨p6, 2, none⟩) l1).trans h5, (hx.cell (p := ⟨p9, 0, none⟩) l2).trans h6, (hx.cell (p := ⟨p9, 1, none⟩) l2).trans h7, (hx.cell (p := ⟨p9, 2, none⟩) l2).trans h8, (hx.cell (p := ⟨p12, 0, none⟩) l3).trans h9, (hx.cell (p := ⟨p12, 1, none⟩) l3).trans h10, (hx.cell (p := ⟨p12, 2, none⟩) l3).trans h11⟩, ⟨by omega, by omega, by omega, by omega⟩, VIA.out _ _ hb hx⟩
  go_cut [131] (fun sv wx => sv = .bool false ∧ Hid (Below b0 w wx))
  case first =>
    go_region_held3 (fun W => (W.cell? ⟨p3, 0, none⟩ = some (.bool false) ∧ W.cell? ⟨p3, 1, none⟩ = some (.string ⟨#[49, 50, 51]⟩) ∧ W.cell? ⟨p3, 2, none⟩ = some (.int .i64 2) ∧ W.cell? ⟨p6, 0, none⟩ = some (.bool false) ∧ W.cell? ⟨p6, 1, none⟩ = some (.string ⟨#[49, 50, 52]⟩) ∧ W.cell? ⟨p6, 2, none⟩ = some (.int .i64 2) ∧ W.cell? ⟨p9, 0, none⟩ = some (.bool true) ∧ W.cell? ⟨p9, 1, none⟩ = some (.string ⟨#[49, 50, 52]⟩) ∧ W.cell? ⟨p9, 2, none⟩ = some (.int .i64 2) ∧ W.cell? ⟨p12, 0, none⟩ = some (.bool false) ∧ W.cell? ⟨p12, 1, none⟩ = some (.string ⟨#[49]⟩) ∧ W.cell? ⟨p12, 2, none⟩ = some (.int .i64 1)) ∧ ((p3 < W.heap.size ∧ p6 < W.heap.size ∧ p9 < W.heap.size ∧ p12 < W.heap.size) ∧ Below b0 w W)) (first | exact ⟨ST.out.1, ST.out.2.1, ST.out.2.2.drew⟩ | exact KS.out _ _ (by assumption) (by assumption)) (first | (go_at_call 26; refine (dec_any _ _ _ _).mono ?_; rintro e wz ⟨rfl, hbz⟩))
    all_goals
      go_wp2_with fail
      go_meet
      exact ⟨rfl, (by have h : (wz.cell? ⟨p3, 0, none⟩ = some (.bool false) ∧ wz.cell? ⟨p3, 1, none⟩ = some (.string ⟨#[49, 50, 51]⟩) ∧ wz.cell? ⟨p3, 2, none⟩ = some (.int .i64 2) ∧ wz.cell? ⟨p6, 0, none⟩ = some (.bool false) ∧ wz.cell? ⟨p6, 1, none⟩ = some (.string ⟨#[49, 50, 52]⟩) ∧ wz.cell? ⟨p6, 2, none⟩ = some (.int .i64 2) ∧ wz.cell? ⟨p9, 0, none⟩ = some (.bool true) ∧ wz.cell? ⟨p9, 1, none⟩ = some (.string ⟨#[49, 50, 52]⟩) ∧ wz.cell? ⟨p9, 2, none⟩ = some (.int .i64 2) ∧ wz.cell? ⟨p12, 0, none⟩ = some (.bool false) ∧ wz.cell? ⟨p12, 1, none⟩ = some (.string ⟨#[49]⟩) ∧ wz.cell? ⟨p12, 2, none⟩ = some (.int .i64 1)) ∧ ((p3 < wz.heap.size ∧ p6 < wz.heap.size ∧ p9 < wz.heap.size ∧ p12 < wz.heap.size) ∧ Below b0 w wz) := by assumption
                      exact h.2.2)⟩
  case rest =>
  obtain ⟨rfl, HBR⟩ := hcut
  clear ST KS HB12
  go_upto_if 131 with fail
  go_cut [] (fun wx => Hid (Below b0 w wx))
  case first =>
    go_wp2
    go_meet
    exact HBR
  case rest =>
  apply_assumption
  exact seg3 VIA TB hcut
set_option maxRecDepth 1000000 in
set_option maxHeartbeats 16000000 in
theorem shown_any (w : World) (T : Tabs w) : Calls Tryd.prog 9 #[] w fun e w' => e = .returned (.bool true) ∧ Below w.heap.size w w' := by
  have HT := Lib.hid T
  clear T
  have HB0 : Hid (Below w.heap.size w w) := Below.refl _ _
  obtain ⟨b0, hb0⟩ : ∃ b, w.heap.size = b := ⟨_, rfl⟩
  have VIA : Hid (∀ X x : World, Below b0 w X → Below X.heap.size X x → Below b0 w x) := by unfold Hid; rw [← hb0]; exact fun X x h1 h2 => via h1 h2
  have TB : Hid (∀ X : World, Below b0 w X → Tabs X) := by unfold Hid; rw [← hb0]; exact fun X h => HT.out.below h
  rw [hb0] at HB0 ⊢
  clear hb0
  go_enter Tryd.func9, Tryd.ntmps9
  go_wp2_with fail
  refine (ex_a _).mono ?_
  rintro e v1 ⟨rfl, hbn⟩
  have HB1 : Hid (Below b0 w v1) := VIA.out _ _ HB0.out hbn
  clear hbn HB0
  go_wp2_with fail
  generalize hal : v1.alloc (.cells #[.bool false, .string ⟨#[49, 50]⟩, .int .i64 (4)] 23) = v2
  have hbn := al1 v1 (.cells #[.bool false, .string ⟨#[49, 50]⟩, .int .i64 (4)] 23)
  rw [hal] at hbn
  have nbx := BoxD.new v1 false ⟨#[49, 50]⟩ (4)
  rw [hal] at nbx
  have nbz : v1.heap.size < v2.heap.size := by rw [← hal]; simp
  have HB2 : Hid (Below b0 w v2) := VIA.out _ _ HB1.out hbn
  clear hbn HB1
  obtain ⟨p2, hp⟩ : ∃ b, v1.heap.size = b := ⟨_, rfl⟩
  rw [hp] at nbx nbz ⊢
  have BX2 := Lib.hid nbx; have BZ2 := Lib.hid nbz
  clear nbx nbz
  clear hp hal
  refine (ex_b _).mono ?_
  rintro e v3 ⟨rfl, hbn⟩
  have HB3 : Hid (Below b0 w v3) := VIA.out _ _ HB2.out hbn
  have bx := BX2.out.on hbn BZ2.out
  have bz : p2 < v3.heap.size := Nat.lt_of_lt_of_le BZ2.out hbn.size
  clear BX2 BZ2
  have BX2 := Lib.hid bx; have BZ2 := Lib.hid bz
  clear bx bz
  clear hbn HB2
  go_wp2_with fail
  generalize hal : v3.alloc (.cells #[.bool true, .string ⟨#[]⟩, .int .i64 (0)] 23) = v4
  have hbn := al1 v3 (.cells #[.bool true, .string ⟨#[]⟩, .int .i64 (0)] 23)
  rw [hal] at hbn
  have nbx := BoxD.new v3 true ⟨#[]⟩ (0)
  rw [hal] at nbx
  have nbz : v3.heap.size < v4.heap.size := by rw [← hal]; simp
  have HB4 : Hid (Below b0 w v4) := VIA.out _ _ HB3.out hbn
  have bx := BX2.out.on hbn BZ2.out
  have bz : p2 < v4.heap.size := Nat.lt_of_lt_of_le BZ2.out hbn.size
  clear BX2 BZ2
  have BX2 := Lib.hid bx; have BZ2 := Lib.hid bz
  clear bx bz
  clear hbn HB3
  obtain ⟨p4, hp⟩ : ∃ b, v3.heap.size = b := ⟨_, rfl⟩
  rw [hp] at nbx nbz ⊢
  have BX4 := Lib.hid nbx; have BZ4 := Lib.hid nbz
  clear nbx nbz
  clear hp hal
  refine (ex_g _).mono ?_
  rintro e v5 ⟨rfl, hbn⟩
  have HB5 : Hid (Below b0 w v5) := VIA.out _ _ HB4.out hbn
  have bx := BX2.out.on hbn BZ2.out
  have bz : p2 < v5.heap.size := Nat.lt_of_lt_of_le BZ2.out hbn.size
  clear BX2 BZ2
  have BX2 := Lib.hid bx; have BZ2 := Lib.hid bz
  clear bx bz
  have bx := BX4.out.on hbn BZ4.out
  have bz : p4 < v5.heap.size := Nat.lt_of_lt_of_le BZ4.out hbn.size
  clear BX4 BZ4
  have BX4 := Lib.hid bx; have BZ4 := Lib.hid bz
  clear bx bz
  clear hbn HB4
  go_wp2_with fail
  generalize hal : v5.alloc (.cells #[.bool false, .string ⟨#[]⟩, .int .i64 (0)] 23) = v6
  have hbn := al1 v5 (.cells #[.bool false, .string ⟨#[]⟩, .int .i64 (0)] 23)
  rw [hal] at hbn
  have HB6 : Hid (Below b0 w v6) := VIA.out _ _ HB5.out hbn
  have bx := BX2.out.on hbn BZ2.out
  have bz : p2 < v6.heap.size := Nat.lt_of_lt_of_le BZ2.out hbn.size
  clear BX2 BZ2
  have BX2 := Lib.hid bx; have BZ2 := Lib.hid bz
  clear bx bz
  have bx := BX4.out.on hbn BZ4.out
  have bz : p4 < v6.heap.size := Nat.lt_of_lt_of_le BZ4.out hbn.size
  clear BX4 BZ4
  have BX4 := Lib.hid bx; have BZ4 := Lib.hid bz
  clear bx bz
  clear hbn HB5
  obtain ⟨p6, hp⟩ : ∃ b, v5.heap.size = b := ⟨_, rfl⟩
  rw [hp]
  clear hp hal
  refine (ex_h _).mono ?_
  rintro e v7 ⟨rfl, hbn⟩
  have HB7 : Hid (Below b0 w v7) := VIA.out _ _ HB6.out hbn
  have bx := BX2.out.on hbn BZ2.out
  have bz : p2 < v7.heap.size := Nat.lt_of_lt_of_le BZ2.out hbn.size
  clear BX2 BZ2
  have BX2 := Lib.hid bx; have BZ2 := Lib.hid bz
  clear bx bz
  have bx := BX4.out.on hbn BZ4.out
  have bz : p4 < v7.heap.size := Nat.lt_of_lt_of_le BZ4.out hbn.size
  clear BX4 BZ4
  have BX4 := Lib.hid bx; have BZ4 := Lib.hid bz
  clear bx bz
  clear hbn HB6
  go_upto_region 5 with fail
  generalize hal : v7.alloc (.cells #[.bool false, .string ⟨#[]⟩, .int .i64 (0)] 23) = v8
  have hbn := al1 v7 (.cells #[.bool false, .string ⟨#[]⟩, .int .i64 (0)] 23)
  rw [hal] at hbn
  have HB8 : Hid (Below b0 w v8) := VIA.out _ _ HB7.out hbn
  have bx := BX2.out.on hbn BZ2.out
  have bz : p2 < v8.heap.size := Nat.lt_of_lt_of_le BZ2.out hbn.size
  clear BX2 BZ2
  have BX2 := Lib.hid bx; have BZ2 := Lib.hid bz
  clear bx bz
  have bx := BX4.out.on hbn BZ4.out
  have bz : p4 < v8.heap.size := Nat.lt_of_lt_of_le BZ4.out hbn.size
  clear BX4 BZ4
  have BX4 := Lib.hid bx; have BZ4 := Lib.hid bz
  clear bx bz
  clear hbn HB7
  obtain ⟨p8, hp⟩ : ∃ b, v7.heap.size = b := ⟨_, rfl⟩
  rw [hp]
  clear hp hal
  obtain ⟨c20, c21, c22⟩ := BX2.out
  have m2 := BZ2.out
  obtain ⟨c40, c41, c42⟩ := BX4.out
  have m4 := BZ4.out
  have ST : Hid ((v8.cell? ⟨p2, 0, none⟩ = some (.bool false) ∧ v8.cell? ⟨p2, 1, none⟩ = some (.string ⟨#[49, 50]⟩) ∧ v8.cell? ⟨p2, 2, none⟩ = some (.int .i64 4) ∧ v8.cell? ⟨p4, 0, none⟩ = some (.bool true) ∧ v8.cell? ⟨p4, 1, none⟩ = some (.string ⟨#[]⟩) ∧ v8.cell? ⟨p4, 2, none⟩ = some (.int .i64 0)) ∧ ((p2 < v8.heap.size ∧ p4 < v8.heap.size) ∧ Below b0 w v8)) := ⟨⟨c20, c21, c22, c40, c41, c42⟩, ⟨m2, m4⟩, HB8.out⟩
  clear c20 c21 c22 m2 BX2 BZ2 c40 c41 c42 m4 BX4 BZ4
  have KS : Hid (∀ A Z : World, ((A.cell? ⟨p2, 0, none⟩ = some (.bool false) ∧ A.cell? ⟨p2, 1, none⟩ = some (.string ⟨#[49, 50]⟩) ∧ A.cell? ⟨p2, 2, none⟩ = some (.int .i64 4) ∧ A.cell? ⟨p4, 0, none⟩ = some (.bool true) ∧ A.cell? ⟨p4, 1, none⟩ = some (.string ⟨#[]⟩) ∧ A.cell? ⟨p4, 2, none⟩ = some (.int .i64 0)) ∧ ((p2 < A.heap.size ∧ p4 < A.heap.size) ∧ Below b0 w A)) → Below A.heap.size A Z → ((Z.cell? ⟨p2, 0, none⟩ = some (.bool false) ∧ Z.cell? ⟨p2, 1, none⟩ = some (.string ⟨#[49, 50]⟩) ∧ Z.cell? ⟨p2, 2, none⟩ = some (.int .i64 4) ∧ Z.cell? ⟨p4, 0, none⟩ = some (.bool true) ∧ Z.cell? ⟨p4, 1, none⟩ = some (.string ⟨#[]⟩) ∧ Z.cell? ⟨p4, 2, none⟩ = some (.int .i64 0)) ∧ ((p2 < Z.heap.size ∧ p4 < Z.heap.size) ∧ Below b0 w Z))) := by
    rintro A Z ⟨⟨h0, h1, h2, h3, h4, h5⟩, ⟨l0, l1⟩, hb⟩ hx
    have hz := hx.size
    refine ⟨⟨(hx.cell (p := ⟨p2, 0, none⟩) l0).trans h0, (hx.cell (p := ⟨p2, 1, none⟩) l0).trans h1, (hx.cell (p := ⟨p2, 2, none⟩) l0).trans h2, (hx.cell (p := ⟨p4, 0, none⟩) l1).trans h3, (hx.cell (p := ⟨p4, 1, none⟩) l1).trans h4, (hx.cell (p := ⟨p4, 2, none⟩) l1).trans h5⟩, ⟨by omega, by omega⟩, VIA.out _ _ hb hx⟩
  go_cut [77] (fun sv wx => sv = .bool false ∧ Hid (Below b0 w wx))
  case first =>
    go_region_held3 (fun W => (W.cell? ⟨p2, 0, none⟩ = some (.bool false) ∧ W.cell? ⟨p2, 1, none⟩ = some (.string ⟨#[49, 50]⟩) ∧ W.cell? ⟨p2, 2, none⟩ = some (.int .i64 4) ∧ W.cell? ⟨p4, 0, none⟩ = some (.bool true) ∧ W.cell? ⟨p4, 1, none⟩ = some (.string ⟨#[]⟩) ∧ W.cell? ⟨p4, 2, none⟩ = some (.int .i64 0)) ∧ ((p2 < W.heap.size ∧ p4 < W.heap.size) ∧ Below b0 w W)) (first | exact ⟨ST.out.1, ST.out.2.1, ST.out.2.2.drew⟩ | exact KS.out _ _ (by assumption) (by assumption)) (first | (go_at_call 26; refine (dec_any _ _ _ _).mono ?_; rintro e wz ⟨rfl, hbz⟩))
    all_goals
      go_wp2_with fail
      go_meet
      exact ⟨rfl, (by have h : (wz.cell? ⟨p2, 0, none⟩ = some (.bool false) ∧ wz.cell? ⟨p2, 1, none⟩ = some (.string ⟨#[49, 50]⟩) ∧ wz.cell? ⟨p2, 2, none⟩ = some (.int .i64 4) ∧ wz.cell? ⟨p4, 0, none⟩ = some (.bool true) ∧ wz.cell? ⟨p4, 1, none⟩ = some (.string ⟨#[]⟩) ∧ wz.cell? ⟨p4, 2, none⟩ = some (.int .i64 0)) ∧ ((p2 < wz.heap.size ∧ p4 < wz.heap.size) ∧ Below b0 w wz) := by assumption
                      exact h.2.2)⟩
  case rest =>
  obtain ⟨rfl, HBR⟩ := hcut
  clear ST KS HB8
  go_upto_if 77 with fail
  go_cut [] (fun wx => Hid (Below b0 w wx))
  case first =>
    go_wp2
    go_meet
    exact HBR
  case rest =>
  apply_assumption
  exact seg2 VIA TB hcut
end Go.Proofs.YtgjhpcmpgkfnkaaDoor
