/-
  NARROWER THAN 'FOR EVERY INPUT', by the rows' own cells (each row's printed sentence says how): ArithAdds: laid · ArithMuls: laid · ArithSums: laid.
  DERIVED. THE GIVEN ROWS OF THIS SEAT. 3 by the template 'for every input the law returns true; each argument reads behind the call as it read before'; 0 by the template 'total and deterministic' (their statements: YthclnopdmmibiaaDoorTotals.lean).
  GIVEN WITH THE SEED: the statements are not yours to turn. If you find one false, say at which input.
  Laid BY PROGRAM, IN A SANDBOX (cutbox-rows.mjs): the forced cells as the released guide's own fill.sh prints them over the translation be05711291bc1595… (all of the seat's roots in one cut). By AI agents, Wed Nov 11 2026. No macro, syntax, notation, axiom, sorry.
-/
import Derived.Test.YthclnopdmmibiaaDoorChecked
import GoSem.Claim
import GoSem.ClaimJoined
import GoSem.ClaimMapViews
import Derived.JoinedTies
import Derived.KernelRfl
namespace Go.Proofs.YthclnopdmmibiaaDoor
/- THE CELL 'sum', in the pinned program and in every row, IS THE sha256 OF THE DUMP (.gsa) THAT YthclnopdmmibiaaDoorProg.lean LOADS. Nothing in Lean hashes anything: it is a label: what it is worth is what the hold of that sum in a sandbox is worth. -/
noncomputable def Tryd.pinned : Pinned := { name := "ythclnopdmmibiaadoor", sum := "be05711291bc15954f21abe9042c9258c13bfc7f8fcb7856cfae94a2117b6f1f", checked := Tryd.checked }
namespace Rows
def none {H : Type} : Left H := { results := [], args := [] }

/- WHAT THE LISTED PACKAGE-LEVEL VARIABLES READ AS WHEN THE CALL BEGINS. Each datum BY PROGRAM (the guide's laid-datum.mjs) off the statement by which the dump's own 'gosem.cut.vars' lays the variable. In a bare row this is a premise. The card (YthclnopdmmibiaaDoorCards.lean) ties it to the program's text. -/
def laid_tabard_arith_sums {H : Type} : DataW H := .agg [.agg [.lit (.int .i64 6), .lit (.int .i64 3), .lit (.int .i64 3), .lit (.int .i64 3), .lit (.int .i64 1)], .agg [.lit (.int .i64 2), .lit (.int .i64 0), .lit (.int .i64 0), .lit (.int .i64 3), .lit (.int .i64 1)], .agg [.lit (.int .i64 2), .lit (.int .i64 0), .lit (.int .i64 0), .lit (.int .i64 3), .lit (.int .i64 1)], .agg [.lit (.int .i64 2), .lit (.int .i64 2), .lit (.int .i64 2), .lit (.int .i64 7), .lit (.int .i64 1)], .agg [.lit (.int .i64 1), .lit (.int .i64 1), .lit (.int .i64 1), .lit (.int .i64 1), .lit (.int .i64 1)]]
def laid_tabard_arith_products {H : Type} : DataW H := .agg [.agg [.lit (.int .i64 5), .lit (.int .i64 5), .lit (.int .i64 5), .lit (.int .i64 1), .lit (.int .i64 1)], .agg [.lit (.int .i64 5), .lit (.int .i64 0), .lit (.int .i64 0), .lit (.int .i64 4), .lit (.int .i64 1)], .agg [.lit (.int .i64 5), .lit (.int .i64 0), .lit (.int .i64 0), .lit (.int .i64 4), .lit (.int .i64 1)], .agg [.lit (.int .i64 1), .lit (.int .i64 4), .lit (.int .i64 4), .lit (.int .i64 4), .lit (.int .i64 1)], .agg [.lit (.int .i64 1), .lit (.int .i64 1), .lit (.int .i64 1), .lit (.int .i64 1), .lit (.int .i64 1)]]

/-- 'tabardlaw4.ArithAdds': WHATEVER THE INPUT: true; the input reads as it did. -/
def arithAddsSpec : ChangeSpec := { name := "arithAdds", fn := fun _ => fun
  | [d1, d2] => { results := [.lit (.bool true)], args := [d1, d2] }
  | _ => none }
def arithAddsRow : OpenClaim := { program := "ythclnopdmmibiaadoor", sum := "be05711291bc15954f21abe9042c9258c13bfc7f8fcb7856cfae94a2117b6f1f", func := "tabard/tabardlaw4.ArithAdds", spec := "arithAdds", inPlace := ["math/bits.Add64", "math/bits.Sub64"], unfollowed := true, recurses := true, named := ["tabard/arith.sums", "tabard/arith.products"], apart := false, laid := [("tabard/arith.sums", laid_tabard_arith_sums), ("tabard/arith.products", laid_tabard_arith_products)] }
def ArithAddsSaid : Prop := arithAddsRow.holds Tryd.pinned (OpenSpec.ofChange arithAddsSpec)

/-- ITS FALSE NEIGHBOUR: 'it returns false'. Refute it at one input. -/
def arithAddsWrong : ChangeSpec := { name := "arithAdds", fn := fun _ => fun
  | [d1, d2] => { results := [.lit (.bool false)], args := [d1, d2] }
  | _ => none }
def ArithAddsWrongFalsely : Prop := arithAddsRow.holds Tryd.pinned (OpenSpec.ofChange arithAddsWrong)

/-- 'tabardlaw4.ArithMuls': WHATEVER THE INPUT: true; the input reads as it did. -/
def arithMulsSpec : ChangeSpec := { name := "arithMuls", fn := fun _ => fun
  | [d1, d2] => { results := [.lit (.bool true)], args := [d1, d2] }
  | _ => none }
def arithMulsRow : OpenClaim := { program := "ythclnopdmmibiaadoor", sum := "be05711291bc15954f21abe9042c9258c13bfc7f8fcb7856cfae94a2117b6f1f", func := "tabard/tabardlaw4.ArithMuls", spec := "arithMuls", inPlace := ["math/bits.Add64", "math/bits.Sub64"], unfollowed := true, recurses := true, named := ["tabard/arith.sums", "tabard/arith.products"], apart := false, laid := [("tabard/arith.sums", laid_tabard_arith_sums), ("tabard/arith.products", laid_tabard_arith_products)] }
def ArithMulsSaid : Prop := arithMulsRow.holds Tryd.pinned (OpenSpec.ofChange arithMulsSpec)

/-- ITS FALSE NEIGHBOUR: 'it returns false'. Refute it at one input. -/
def arithMulsWrong : ChangeSpec := { name := "arithMuls", fn := fun _ => fun
  | [d1, d2] => { results := [.lit (.bool false)], args := [d1, d2] }
  | _ => none }
def ArithMulsWrongFalsely : Prop := arithMulsRow.holds Tryd.pinned (OpenSpec.ofChange arithMulsWrong)

/-- 'tabardlaw4.ArithSums': WHATEVER THE INPUT: true; the input reads as it did. -/
def arithSumsSpec : ChangeSpec := { name := "arithSums", fn := fun _ => fun
  | [d] => { results := [.lit (.bool true)], args := [d] }
  | _ => none }
def arithSumsRow : OpenClaim := { program := "ythclnopdmmibiaadoor", sum := "be05711291bc15954f21abe9042c9258c13bfc7f8fcb7856cfae94a2117b6f1f", func := "tabard/tabardlaw4.ArithSums", spec := "arithSums", inPlace := ["math/bits.Add64", "math/bits.Sub64"], unfollowed := true, recurses := true, named := ["tabard/arith.sums", "tabard/arith.products"], apart := false, laid := [("tabard/arith.sums", laid_tabard_arith_sums), ("tabard/arith.products", laid_tabard_arith_products)] }
def ArithSumsSaid : Prop := arithSumsRow.holds Tryd.pinned (OpenSpec.ofChange arithSumsSpec)

/-- ITS FALSE NEIGHBOUR: 'it returns false'. Refute it at one input. -/
def arithSumsWrong : ChangeSpec := { name := "arithSums", fn := fun _ => fun
  | [d] => { results := [.lit (.bool false)], args := [d] }
  | _ => none }
def ArithSumsWrongFalsely : Prop := arithSumsRow.holds Tryd.pinned (OpenSpec.ofChange arithSumsWrong)

/- THE SECOND FORM. 'bulk': how many values and letters a reading holds, each counted each time it is reached (what is shared counts as often as it is met; a slice's spare places count too). A statement '..UptoSaid' is the law's where the arguments, and the package variables that the reading takes, are together of bulk at most 1048576: NARROWER than '..Said'. Prove '..Said' where nothing that the law and all that it calls make is longer than what came in: it says more and counts as full. Else prove '..UptoSaid'. A law counts once. -/
mutual
def uptoBulk {H : Type} : DataW H → Nat
  | .lit (.string bytes) => bytes.length + 1
  | .lit _ => 1
  | .nil => 1
  | .ptr d => uptoBulk d + 1
  | .slice elems spare => uptoBulkAll elems + uptoBulkAll spare + 1
  | .agg parts => uptoBulkAll parts + 1
  | .iface _ d => uptoBulk d + 1
  | .map entries => uptoBulkEntries entries + 1
  | .held _ => 1
def uptoBulkAll {H : Type} : List (DataW H) → Nat
  | [] => 0
  | d :: r => uptoBulk d + uptoBulkAll r
def uptoBulkEntries {H : Type} : List (Lit × DataW H) → Nat
  | [] => 0
  | x :: r => uptoBulkEntry x + uptoBulkEntries r
def uptoBulkEntry {H : Type} : Lit × DataW H → Nat
  | (.string bytes, d) => bytes.length + uptoBulk d + 1
  | (_, d) => uptoBulk d + 1
 end
def uptoSmall : (H : Type) → List (DataW H) → Bool := fun _ ds => decide (uptoBulkAll ds ≤ 1048576)
def OpenSpec.upto (s : _root_.Go.ChangeSpec) : _root_.Go.OpenSpec := { _root_.Go.OpenSpec.ofChange s with cond := some uptoSmall }

/-- 'tabardlaw4.ArithAdds', WHERE WHAT IT READS IS OF BULK AT MOST 1048576: true; the input reads as it did. -/
def arithAddsUptoRow : OpenClaim := { program := "ythclnopdmmibiaadoor", sum := "be05711291bc15954f21abe9042c9258c13bfc7f8fcb7856cfae94a2117b6f1f", func := "tabard/tabardlaw4.ArithAdds", spec := "arithAdds", inPlace := ["math/bits.Add64", "math/bits.Sub64"], unfollowed := true, recurses := true, named := ["tabard/arith.sums", "tabard/arith.products"], apart := false, laid := [("tabard/arith.sums", laid_tabard_arith_sums), ("tabard/arith.products", laid_tabard_arith_products)], narrowed := true }
def ArithAddsUptoSaid : Prop := arithAddsUptoRow.holds Tryd.pinned (OpenSpec.upto arithAddsSpec)

/-- 'tabardlaw4.ArithMuls', WHERE WHAT IT READS IS OF BULK AT MOST 1048576: true; the input reads as it did. -/
def arithMulsUptoRow : OpenClaim := { program := "ythclnopdmmibiaadoor", sum := "be05711291bc15954f21abe9042c9258c13bfc7f8fcb7856cfae94a2117b6f1f", func := "tabard/tabardlaw4.ArithMuls", spec := "arithMuls", inPlace := ["math/bits.Add64", "math/bits.Sub64"], unfollowed := true, recurses := true, named := ["tabard/arith.sums", "tabard/arith.products"], apart := false, laid := [("tabard/arith.sums", laid_tabard_arith_sums), ("tabard/arith.products", laid_tabard_arith_products)], narrowed := true }
def ArithMulsUptoSaid : Prop := arithMulsUptoRow.holds Tryd.pinned (OpenSpec.upto arithMulsSpec)

/-- 'tabardlaw4.ArithSums', WHERE WHAT IT READS IS OF BULK AT MOST 1048576: true; the input reads as it did. -/
def arithSumsUptoRow : OpenClaim := { program := "ythclnopdmmibiaadoor", sum := "be05711291bc15954f21abe9042c9258c13bfc7f8fcb7856cfae94a2117b6f1f", func := "tabard/tabardlaw4.ArithSums", spec := "arithSums", inPlace := ["math/bits.Add64", "math/bits.Sub64"], unfollowed := true, recurses := true, named := ["tabard/arith.sums", "tabard/arith.products"], apart := false, laid := [("tabard/arith.sums", laid_tabard_arith_sums), ("tabard/arith.products", laid_tabard_arith_products)], narrowed := true }
def ArithSumsUptoSaid : Prop := arithSumsUptoRow.holds Tryd.pinned (OpenSpec.upto arithSumsSpec)

end Rows
end Go.Proofs.YthclnopdmmibiaaDoor
