/-
  NARROWER THAN 'FOR EVERY INPUT', by the rows' own cells (each row's printed sentence says how): ArithTurns: laid · ArithPlain: laid · ArithOrders: laid · ArithExact: laid.
  DERIVED. THE GIVEN ROWS OF THIS SEAT. 4 by the template 'for every input the law returns true; each argument reads behind the call as it read before'; 0 by the template 'total and deterministic' (their statements: YtgaaaokhggeglaaDoorTotals.lean).
  GIVEN WITH THE SEED: the statements are not yours to turn. If you find one false, say at which input.
  Laid BY PROGRAM, IN A SANDBOX (cutbox-rows.mjs): the forced cells as the released guide's own fill.sh prints them over the translation db87c489f6a515d9… (all of the seat's roots in one cut). By AI agents, Wed Nov 11 2026. No macro, syntax, notation, axiom, sorry.
-/
import Derived.Test.YtgaaaokhggeglaaDoorChecked
import GoSem.Claim
import GoSem.ClaimJoined
import GoSem.ClaimMapViews
import Derived.JoinedTies
import Derived.KernelRfl
namespace Go.Proofs.YtgaaaokhggeglaaDoor
/- THE CELL 'sum', in the pinned program and in every row, IS THE sha256 OF THE DUMP (.gsa) THAT YtgaaaokhggeglaaDoorProg.lean LOADS. Nothing in Lean hashes anything: it is a label: what it is worth is what the hold of that sum in a sandbox is worth. -/
noncomputable def Tryd.pinned : Pinned := { name := "ytgaaaokhggeglaadoor", sum := "db87c489f6a515d93ecb28b71c0d9cd6565ec46dd556bed979c4243b707f1252", checked := Tryd.checked }
namespace Rows
def none {H : Type} : Left H := { results := [], args := [] }

/- WHAT THE LISTED PACKAGE-LEVEL VARIABLES READ AS WHEN THE CALL BEGINS. Each datum BY PROGRAM (the guide's laid-datum.mjs) off the statement by which the dump's own 'gosem.cut.vars' lays the variable. In a bare row this is a premise. The card (YtgaaaokhggeglaaDoorCards.lean) ties it to the program's text. -/
def laid_tabard_arith_sums {H : Type} : DataW H := .agg [.agg [.lit (.int .i64 6), .lit (.int .i64 3), .lit (.int .i64 3), .lit (.int .i64 3), .lit (.int .i64 1)], .agg [.lit (.int .i64 2), .lit (.int .i64 0), .lit (.int .i64 0), .lit (.int .i64 3), .lit (.int .i64 1)], .agg [.lit (.int .i64 2), .lit (.int .i64 0), .lit (.int .i64 0), .lit (.int .i64 3), .lit (.int .i64 1)], .agg [.lit (.int .i64 2), .lit (.int .i64 2), .lit (.int .i64 2), .lit (.int .i64 7), .lit (.int .i64 1)], .agg [.lit (.int .i64 1), .lit (.int .i64 1), .lit (.int .i64 1), .lit (.int .i64 1), .lit (.int .i64 1)]]
def laid_tabard_arith_products {H : Type} : DataW H := .agg [.agg [.lit (.int .i64 5), .lit (.int .i64 5), .lit (.int .i64 5), .lit (.int .i64 1), .lit (.int .i64 1)], .agg [.lit (.int .i64 5), .lit (.int .i64 0), .lit (.int .i64 0), .lit (.int .i64 4), .lit (.int .i64 1)], .agg [.lit (.int .i64 5), .lit (.int .i64 0), .lit (.int .i64 0), .lit (.int .i64 4), .lit (.int .i64 1)], .agg [.lit (.int .i64 1), .lit (.int .i64 4), .lit (.int .i64 4), .lit (.int .i64 4), .lit (.int .i64 1)], .agg [.lit (.int .i64 1), .lit (.int .i64 1), .lit (.int .i64 1), .lit (.int .i64 1), .lit (.int .i64 1)]]

/-- 'tabardlaw4.ArithTurns': WHATEVER THE INPUT: true; the input reads as it did. -/
def arithTurnsSpec : ChangeSpec := { name := "arithTurns", fn := fun _ => fun
  | [d1, d2] => { results := [.lit (.bool true)], args := [d1, d2] }
  | _ => none }
def arithTurnsRow : OpenClaim := { program := "ytgaaaokhggeglaadoor", sum := "db87c489f6a515d93ecb28b71c0d9cd6565ec46dd556bed979c4243b707f1252", func := "tabard/tabardlaw4.ArithTurns", spec := "arithTurns", inPlace := ["math/bits.Add64", "math/bits.Sub64"], unfollowed := true, recurses := true, named := ["tabard/arith.sums", "tabard/arith.products"], apart := false, laid := [("tabard/arith.sums", laid_tabard_arith_sums), ("tabard/arith.products", laid_tabard_arith_products)] }
def ArithTurnsSaid : Prop := arithTurnsRow.holds Tryd.pinned (OpenSpec.ofChange arithTurnsSpec)

/-- ITS FALSE NEIGHBOUR: 'it returns false'. Refute it at one input. -/
def arithTurnsWrong : ChangeSpec := { name := "arithTurns", fn := fun _ => fun
  | [d1, d2] => { results := [.lit (.bool false)], args := [d1, d2] }
  | _ => none }
def ArithTurnsWrongFalsely : Prop := arithTurnsRow.holds Tryd.pinned (OpenSpec.ofChange arithTurnsWrong)

/-- 'tabardlaw4.ArithPlain': WHATEVER THE INPUT: true; the input reads as it did. -/
def arithPlainSpec : ChangeSpec := { name := "arithPlain", fn := fun _ => fun
  | [d] => { results := [.lit (.bool true)], args := [d] }
  | _ => none }
def arithPlainRow : OpenClaim := { program := "ytgaaaokhggeglaadoor", sum := "db87c489f6a515d93ecb28b71c0d9cd6565ec46dd556bed979c4243b707f1252", func := "tabard/tabardlaw4.ArithPlain", spec := "arithPlain", inPlace := ["math/bits.Add64", "math/bits.Sub64"], unfollowed := true, recurses := true, named := ["tabard/arith.sums", "tabard/arith.products"], apart := false, laid := [("tabard/arith.sums", laid_tabard_arith_sums), ("tabard/arith.products", laid_tabard_arith_products)] }
def ArithPlainSaid : Prop := arithPlainRow.holds Tryd.pinned (OpenSpec.ofChange arithPlainSpec)

/-- ITS FALSE NEIGHBOUR: 'it returns false'. Refute it at one input. -/
def arithPlainWrong : ChangeSpec := { name := "arithPlain", fn := fun _ => fun
  | [d] => { results := [.lit (.bool false)], args := [d] }
  | _ => none }
def ArithPlainWrongFalsely : Prop := arithPlainRow.holds Tryd.pinned (OpenSpec.ofChange arithPlainWrong)

/-- 'tabardlaw4.ArithOrders': WHATEVER THE INPUT: true; the input reads as it did. -/
def arithOrdersSpec : ChangeSpec := { name := "arithOrders", fn := fun _ => fun
  | [d1, d2, d3] => { results := [.lit (.bool true)], args := [d1, d2, d3] }
  | _ => none }
def arithOrdersRow : OpenClaim := { program := "ytgaaaokhggeglaadoor", sum := "db87c489f6a515d93ecb28b71c0d9cd6565ec46dd556bed979c4243b707f1252", func := "tabard/tabardlaw4.ArithOrders", spec := "arithOrders", inPlace := ["math/bits.Add64", "math/bits.Sub64"], unfollowed := true, recurses := true, named := ["tabard/arith.sums", "tabard/arith.products"], apart := false, laid := [("tabard/arith.sums", laid_tabard_arith_sums), ("tabard/arith.products", laid_tabard_arith_products)] }
def ArithOrdersSaid : Prop := arithOrdersRow.holds Tryd.pinned (OpenSpec.ofChange arithOrdersSpec)

/-- ITS FALSE NEIGHBOUR: 'it returns false'. Refute it at one input. -/
def arithOrdersWrong : ChangeSpec := { name := "arithOrders", fn := fun _ => fun
  | [d1, d2, d3] => { results := [.lit (.bool false)], args := [d1, d2, d3] }
  | _ => none }
def ArithOrdersWrongFalsely : Prop := arithOrdersRow.holds Tryd.pinned (OpenSpec.ofChange arithOrdersWrong)

/-- 'tabardlaw4.ArithExact': WHATEVER THE INPUT: true; the input reads as it did. -/
def arithExactSpec : ChangeSpec := { name := "arithExact", fn := fun _ => fun
  | [d1, d2] => { results := [.lit (.bool true)], args := [d1, d2] }
  | _ => none }
def arithExactRow : OpenClaim := { program := "ytgaaaokhggeglaadoor", sum := "db87c489f6a515d93ecb28b71c0d9cd6565ec46dd556bed979c4243b707f1252", func := "tabard/tabardlaw4.ArithExact", spec := "arithExact", inPlace := ["math/bits.Add64", "math/bits.Sub64"], unfollowed := true, recurses := true, named := ["tabard/arith.sums", "tabard/arith.products"], apart := false, laid := [("tabard/arith.sums", laid_tabard_arith_sums), ("tabard/arith.products", laid_tabard_arith_products)] }
def ArithExactSaid : Prop := arithExactRow.holds Tryd.pinned (OpenSpec.ofChange arithExactSpec)

/-- ITS FALSE NEIGHBOUR: 'it returns false'. Refute it at one input. -/
def arithExactWrong : ChangeSpec := { name := "arithExact", fn := fun _ => fun
  | [d1, d2] => { results := [.lit (.bool false)], args := [d1, d2] }
  | _ => none }
def ArithExactWrongFalsely : Prop := arithExactRow.holds Tryd.pinned (OpenSpec.ofChange arithExactWrong)

/- THE SECOND FORM. 'bulk': how many values and letters a reading holds, each counted each time it is reached (what is shared counts as often as it is met; a slice's spare places count too). A statement '..UptoSaid' is the law's where the arguments, and the package variables that the reading takes, are together of bulk at most 1048576: NARROWER than '..Said'. Prove '..Said' where nothing that the law and all that it calls make is longer than what came in: it says more and counts as full. Else prove '..UptoSaid'. A law counts once. -/
mutual
def uptoBulk {H : Type} : DataW H → Nat
  | .lit (.string bytes) => bytes.length + 1
  | .lit _ => 1
  | .nil => 1
  | .ptr d => uptoBulk d + 1
  | .slice elems spare => uptoBulkAll elems + uptoBulkAll spare + 1
  | .agg parts => uptoBulkAll parts + 1
  | .iface _ d => uptoBulk d + 1
  | .map entries => uptoBulkEntries entries + 1
  | .held _ => 1
def uptoBulkAll {H : Type} : List (DataW H) → Nat
  | [] => 0
  | d :: r => uptoBulk d + uptoBulkAll r
def uptoBulkEntries {H : Type} : List (Lit × DataW H) → Nat
  | [] => 0
  | x :: r => uptoBulkEntry x + uptoBulkEntries r
def uptoBulkEntry {H : Type} : Lit × DataW H → Nat
  | (.string bytes, d) => bytes.length + uptoBulk d + 1
  | (_, d) => uptoBulk d + 1
 end
def uptoSmall : (H : Type) → List (DataW H) → Bool := fun _ ds => decide (uptoBulkAll ds ≤ 1048576)
def OpenSpec.upto (s : _root_.Go.ChangeSpec) : _root_.Go.OpenSpec := { _root_.Go.OpenSpec.ofChange s with cond := some uptoSmall }

/-- 'tabardlaw4.ArithTurns', WHERE WHAT IT READS IS OF BULK AT MOST 1048576: true; the input reads as it did. -/
def arithTurnsUptoRow : OpenClaim := { program := "ytgaaaokhggeglaadoor", sum := "db87c489f6a515d93ecb28b71c0d9cd6565ec46dd556bed979c4243b707f1252", func := "tabard/tabardlaw4.ArithTurns", spec := "arithTurns", inPlace := ["math/bits.Add64", "math/bits.Sub64"], unfollowed := true, recurses := true, named := ["tabard/arith.sums", "tabard/arith.products"], apart := false, laid := [("tabard/arith.sums", laid_tabard_arith_sums), ("tabard/arith.products", laid_tabard_arith_products)], narrowed := true }
def ArithTurnsUptoSaid : Prop := arithTurnsUptoRow.holds Tryd.pinned (OpenSpec.upto arithTurnsSpec)

/-- 'tabardlaw4.ArithPlain', WHERE WHAT IT READS IS OF BULK AT MOST 1048576: true; the input reads as it did. -/
def arithPlainUptoRow : OpenClaim := { program := "ytgaaaokhggeglaadoor", sum := "db87c489f6a515d93ecb28b71c0d9cd6565ec46dd556bed979c4243b707f1252", func := "tabard/tabardlaw4.ArithPlain", spec := "arithPlain", inPlace := ["math/bits.Add64", "math/bits.Sub64"], unfollowed := true, recurses := true, named := ["tabard/arith.sums", "tabard/arith.products"], apart := false, laid := [("tabard/arith.sums", laid_tabard_arith_sums), ("tabard/arith.products", laid_tabard_arith_products)], narrowed := true }
def ArithPlainUptoSaid : Prop := arithPlainUptoRow.holds Tryd.pinned (OpenSpec.upto arithPlainSpec)

/-- 'tabardlaw4.ArithOrders', WHERE WHAT IT READS IS OF BULK AT MOST 1048576: true; the input reads as it did. -/
def arithOrdersUptoRow : OpenClaim := { program := "ytgaaaokhggeglaadoor", sum := "db87c489f6a515d93ecb28b71c0d9cd6565ec46dd556bed979c4243b707f1252", func := "tabard/tabardlaw4.ArithOrders", spec := "arithOrders", inPlace := ["math/bits.Add64", "math/bits.Sub64"], unfollowed := true, recurses := true, named := ["tabard/arith.sums", "tabard/arith.products"], apart := false, laid := [("tabard/arith.sums", laid_tabard_arith_sums), ("tabard/arith.products", laid_tabard_arith_products)], narrowed := true }
def ArithOrdersUptoSaid : Prop := arithOrdersUptoRow.holds Tryd.pinned (OpenSpec.upto arithOrdersSpec)

/-- 'tabardlaw4.ArithExact', WHERE WHAT IT READS IS OF BULK AT MOST 1048576: true; the input reads as it did. -/
def arithExactUptoRow : OpenClaim := { program := "ytgaaaokhggeglaadoor", sum := "db87c489f6a515d93ecb28b71c0d9cd6565ec46dd556bed979c4243b707f1252", func := "tabard/tabardlaw4.ArithExact", spec := "arithExact", inPlace := ["math/bits.Add64", "math/bits.Sub64"], unfollowed := true, recurses := true, named := ["tabard/arith.sums", "tabard/arith.products"], apart := false, laid := [("tabard/arith.sums", laid_tabard_arith_sums), ("tabard/arith.products", laid_tabard_arith_products)], narrowed := true }
def ArithExactUptoSaid : Prop := arithExactUptoRow.holds Tryd.pinned (OpenSpec.upto arithExactSpec)

end Rows
end Go.Proofs.YtgaaaokhggeglaaDoor
