/-
  NARROWER THAN 'FOR EVERY INPUT', by the rows' own cells (each row's printed sentence says how): RootDivs: laid · RootRoots: laid · RootFuses: laid · RootMods: laid · RootPowers: laid · RootPlain: laid · RootSmalls: laid · RootLeft: laid · RootSquares: laid · WholeNears: laid.
  DERIVED. THE GIVEN ROWS OF THIS SEAT. 10 by the template 'for every input the law returns true; each argument reads behind the call as it read before'; 0 by the template 'total and deterministic' (their statements: YtnefacnceemklaaDoorTotals.lean).
  GIVEN WITH THE SEED: the statements are not yours to turn. If you find one false, say at which input.
  Laid BY PROGRAM, IN A SANDBOX (cutbox-rows.mjs): the forced cells as the released guide's own fill.sh prints them over the translation 57d70901ecbed9ad… (all of the seat's roots in one cut). By AI agents, Wed Nov 11 2026. No macro, syntax, notation, axiom, sorry.
-/
import Derived.Test.YtnefacnceemklaaDoorChecked
import GoSem.Claim
import GoSem.ClaimJoined
import GoSem.ClaimMapViews
import Derived.JoinedTies
import Derived.KernelRfl
namespace Go.Proofs.YtnefacnceemklaaDoor
/- THE CELL 'sum', in the pinned program and in every row, IS THE sha256 OF THE DUMP (.gsa) THAT YtnefacnceemklaaDoorProg.lean LOADS. Nothing in Lean hashes anything: it is a label: what it is worth is what the hold of that sum in a sandbox is worth. -/
noncomputable def Tryd.pinned : Pinned := { name := "ytnefacnceemklaadoor", sum := "57d70901ecbed9add0c0f448c8965646681752941a6d8c0d9af741ff6da7cc5b", checked := Tryd.checked }
namespace Rows
def none {H : Type} : Left H := { results := [], args := [] }

/- WHAT THE LISTED PACKAGE-LEVEL VARIABLES READ AS WHEN THE CALL BEGINS. Each datum BY PROGRAM (the guide's laid-datum.mjs) off the statement by which the dump's own 'gosem.cut.vars' lays the variable. In a bare row this is a premise. The card (YtnefacnceemklaaDoorCards.lean) ties it to the program's text. -/
def laid_tabard_arith_sums {H : Type} : DataW H := .agg [.agg [.lit (.int .i64 6), .lit (.int .i64 3), .lit (.int .i64 3), .lit (.int .i64 3), .lit (.int .i64 1)], .agg [.lit (.int .i64 2), .lit (.int .i64 0), .lit (.int .i64 0), .lit (.int .i64 3), .lit (.int .i64 1)], .agg [.lit (.int .i64 2), .lit (.int .i64 0), .lit (.int .i64 0), .lit (.int .i64 3), .lit (.int .i64 1)], .agg [.lit (.int .i64 2), .lit (.int .i64 2), .lit (.int .i64 2), .lit (.int .i64 7), .lit (.int .i64 1)], .agg [.lit (.int .i64 1), .lit (.int .i64 1), .lit (.int .i64 1), .lit (.int .i64 1), .lit (.int .i64 1)]]
def laid_tabard_arith_products {H : Type} : DataW H := .agg [.agg [.lit (.int .i64 5), .lit (.int .i64 5), .lit (.int .i64 5), .lit (.int .i64 1), .lit (.int .i64 1)], .agg [.lit (.int .i64 5), .lit (.int .i64 0), .lit (.int .i64 0), .lit (.int .i64 4), .lit (.int .i64 1)], .agg [.lit (.int .i64 5), .lit (.int .i64 0), .lit (.int .i64 0), .lit (.int .i64 4), .lit (.int .i64 1)], .agg [.lit (.int .i64 1), .lit (.int .i64 4), .lit (.int .i64 4), .lit (.int .i64 4), .lit (.int .i64 1)], .agg [.lit (.int .i64 1), .lit (.int .i64 1), .lit (.int .i64 1), .lit (.int .i64 1), .lit (.int .i64 1)]]

/-- 'tabardlaw5.RootDivs': WHATEVER THE INPUT: true; the input reads as it did. -/
def rootDivsSpec : ChangeSpec := { name := "rootDivs", fn := fun _ => fun
  | [d1, d2] => { results := [.lit (.bool true)], args := [d1, d2] }
  | _ => none }
def rootDivsRow : OpenClaim := { program := "ytnefacnceemklaadoor", sum := "57d70901ecbed9add0c0f448c8965646681752941a6d8c0d9af741ff6da7cc5b", func := "tabard/tabardlaw5.RootDivs", spec := "rootDivs", inPlace := ["math/bits.Add64", "math/bits.Sub64"], unfollowed := true, recurses := true, named := ["math/bits.divideError", "math/bits.overflowError", "tabard/arith.products", "tabard/arith.sums"], apart := false, laid := [("tabard/arith.sums", laid_tabard_arith_sums), ("tabard/arith.products", laid_tabard_arith_products)] }
def RootDivsSaid : Prop := rootDivsRow.holds Tryd.pinned (OpenSpec.ofChange rootDivsSpec)

/-- ITS FALSE NEIGHBOUR: 'it returns false'. Refute it at one input. -/
def rootDivsWrong : ChangeSpec := { name := "rootDivs", fn := fun _ => fun
  | [d1, d2] => { results := [.lit (.bool false)], args := [d1, d2] }
  | _ => none }
def RootDivsWrongFalsely : Prop := rootDivsRow.holds Tryd.pinned (OpenSpec.ofChange rootDivsWrong)

/-- 'tabardlaw5.RootRoots': WHATEVER THE INPUT: true; the input reads as it did. -/
def rootRootsSpec : ChangeSpec := { name := "rootRoots", fn := fun _ => fun
  | [d] => { results := [.lit (.bool true)], args := [d] }
  | _ => none }
def rootRootsRow : OpenClaim := { program := "ytnefacnceemklaadoor", sum := "57d70901ecbed9add0c0f448c8965646681752941a6d8c0d9af741ff6da7cc5b", func := "tabard/tabardlaw5.RootRoots", spec := "rootRoots", inPlace := ["math/bits.Add64", "math/bits.Sub64"], unfollowed := true, recurses := true, named := ["math/bits.divideError", "math/bits.overflowError", "tabard/arith.products", "tabard/arith.sums"], apart := false, laid := [("tabard/arith.sums", laid_tabard_arith_sums), ("tabard/arith.products", laid_tabard_arith_products)] }
def RootRootsSaid : Prop := rootRootsRow.holds Tryd.pinned (OpenSpec.ofChange rootRootsSpec)

/-- ITS FALSE NEIGHBOUR: 'it returns false'. Refute it at one input. -/
def rootRootsWrong : ChangeSpec := { name := "rootRoots", fn := fun _ => fun
  | [d] => { results := [.lit (.bool false)], args := [d] }
  | _ => none }
def RootRootsWrongFalsely : Prop := rootRootsRow.holds Tryd.pinned (OpenSpec.ofChange rootRootsWrong)

/-- 'tabardlaw5.RootFuses': WHATEVER THE INPUT: true; the input reads as it did. -/
def rootFusesSpec : ChangeSpec := { name := "rootFuses", fn := fun _ => fun
  | [d1, d2, d3] => { results := [.lit (.bool true)], args := [d1, d2, d3] }
  | _ => none }
def rootFusesRow : OpenClaim := { program := "ytnefacnceemklaadoor", sum := "57d70901ecbed9add0c0f448c8965646681752941a6d8c0d9af741ff6da7cc5b", func := "tabard/tabardlaw5.RootFuses", spec := "rootFuses", inPlace := ["math/bits.Add64", "math/bits.Sub64"], unfollowed := true, recurses := true, named := ["math/bits.divideError", "math/bits.overflowError", "tabard/arith.products", "tabard/arith.sums"], apart := false, laid := [("tabard/arith.sums", laid_tabard_arith_sums), ("tabard/arith.products", laid_tabard_arith_products)] }
def RootFusesSaid : Prop := rootFusesRow.holds Tryd.pinned (OpenSpec.ofChange rootFusesSpec)

/-- ITS FALSE NEIGHBOUR: 'it returns false'. Refute it at one input. -/
def rootFusesWrong : ChangeSpec := { name := "rootFuses", fn := fun _ => fun
  | [d1, d2, d3] => { results := [.lit (.bool false)], args := [d1, d2, d3] }
  | _ => none }
def RootFusesWrongFalsely : Prop := rootFusesRow.holds Tryd.pinned (OpenSpec.ofChange rootFusesWrong)

/-- 'tabardlaw5.RootMods': WHATEVER THE INPUT: true; the input reads as it did. -/
def rootModsSpec : ChangeSpec := { name := "rootMods", fn := fun _ => fun
  | [d1, d2] => { results := [.lit (.bool true)], args := [d1, d2] }
  | _ => none }
def rootModsRow : OpenClaim := { program := "ytnefacnceemklaadoor", sum := "57d70901ecbed9add0c0f448c8965646681752941a6d8c0d9af741ff6da7cc5b", func := "tabard/tabardlaw5.RootMods", spec := "rootMods", inPlace := ["math/bits.Add64", "math/bits.Sub64"], unfollowed := true, recurses := true, named := ["math/bits.divideError", "math/bits.overflowError", "tabard/arith.products", "tabard/arith.sums"], apart := false, laid := [("tabard/arith.sums", laid_tabard_arith_sums), ("tabard/arith.products", laid_tabard_arith_products)] }
def RootModsSaid : Prop := rootModsRow.holds Tryd.pinned (OpenSpec.ofChange rootModsSpec)

/-- ITS FALSE NEIGHBOUR: 'it returns false'. Refute it at one input. -/
def rootModsWrong : ChangeSpec := { name := "rootMods", fn := fun _ => fun
  | [d1, d2] => { results := [.lit (.bool false)], args := [d1, d2] }
  | _ => none }
def RootModsWrongFalsely : Prop := rootModsRow.holds Tryd.pinned (OpenSpec.ofChange rootModsWrong)

/-- 'tabardlaw5.RootPowers': WHATEVER THE INPUT: true; the input reads as it did. -/
def rootPowersSpec : ChangeSpec := { name := "rootPowers", fn := fun _ => fun
  | [d1, d2] => { results := [.lit (.bool true)], args := [d1, d2] }
  | _ => none }
def rootPowersRow : OpenClaim := { program := "ytnefacnceemklaadoor", sum := "57d70901ecbed9add0c0f448c8965646681752941a6d8c0d9af741ff6da7cc5b", func := "tabard/tabardlaw5.RootPowers", spec := "rootPowers", inPlace := ["math/bits.Add64", "math/bits.Sub64"], unfollowed := true, recurses := true, named := ["math/bits.divideError", "math/bits.overflowError", "tabard/arith.products", "tabard/arith.sums"], apart := false, laid := [("tabard/arith.sums", laid_tabard_arith_sums), ("tabard/arith.products", laid_tabard_arith_products)] }
def RootPowersSaid : Prop := rootPowersRow.holds Tryd.pinned (OpenSpec.ofChange rootPowersSpec)

/-- ITS FALSE NEIGHBOUR: 'it returns false'. Refute it at one input. -/
def rootPowersWrong : ChangeSpec := { name := "rootPowers", fn := fun _ => fun
  | [d1, d2] => { results := [.lit (.bool false)], args := [d1, d2] }
  | _ => none }
def RootPowersWrongFalsely : Prop := rootPowersRow.holds Tryd.pinned (OpenSpec.ofChange rootPowersWrong)

/-- 'tabardlaw5.RootPlain': WHATEVER THE INPUT: true; the input reads as it did. -/
def rootPlainSpec : ChangeSpec := { name := "rootPlain", fn := fun _ => fun
  | [d1, d2] => { results := [.lit (.bool true)], args := [d1, d2] }
  | _ => none }
def rootPlainRow : OpenClaim := { program := "ytnefacnceemklaadoor", sum := "57d70901ecbed9add0c0f448c8965646681752941a6d8c0d9af741ff6da7cc5b", func := "tabard/tabardlaw5.RootPlain", spec := "rootPlain", inPlace := ["math/bits.Add64", "math/bits.Sub64"], unfollowed := true, recurses := true, named := ["math/bits.divideError", "math/bits.overflowError", "tabard/arith.products", "tabard/arith.sums"], apart := false, laid := [("tabard/arith.sums", laid_tabard_arith_sums), ("tabard/arith.products", laid_tabard_arith_products)] }
def RootPlainSaid : Prop := rootPlainRow.holds Tryd.pinned (OpenSpec.ofChange rootPlainSpec)

/-- ITS FALSE NEIGHBOUR: 'it returns false'. Refute it at one input. -/
def rootPlainWrong : ChangeSpec := { name := "rootPlain", fn := fun _ => fun
  | [d1, d2] => { results := [.lit (.bool false)], args := [d1, d2] }
  | _ => none }
def RootPlainWrongFalsely : Prop := rootPlainRow.holds Tryd.pinned (OpenSpec.ofChange rootPlainWrong)

/-- 'tabardlaw5.RootSmalls': WHATEVER THE INPUT: true; the input reads as it did. -/
def rootSmallsSpec : ChangeSpec := { name := "rootSmalls", fn := fun _ => fun
  | [d1, d2] => { results := [.lit (.bool true)], args := [d1, d2] }
  | _ => none }
def rootSmallsRow : OpenClaim := { program := "ytnefacnceemklaadoor", sum := "57d70901ecbed9add0c0f448c8965646681752941a6d8c0d9af741ff6da7cc5b", func := "tabard/tabardlaw5.RootSmalls", spec := "rootSmalls", inPlace := ["math/bits.Add64", "math/bits.Sub64"], unfollowed := true, recurses := true, named := ["math/bits.divideError", "math/bits.overflowError", "tabard/arith.products", "tabard/arith.sums"], apart := false, laid := [("tabard/arith.sums", laid_tabard_arith_sums), ("tabard/arith.products", laid_tabard_arith_products)] }
def RootSmallsSaid : Prop := rootSmallsRow.holds Tryd.pinned (OpenSpec.ofChange rootSmallsSpec)

/-- ITS FALSE NEIGHBOUR: 'it returns false'. Refute it at one input. -/
def rootSmallsWrong : ChangeSpec := { name := "rootSmalls", fn := fun _ => fun
  | [d1, d2] => { results := [.lit (.bool false)], args := [d1, d2] }
  | _ => none }
def RootSmallsWrongFalsely : Prop := rootSmallsRow.holds Tryd.pinned (OpenSpec.ofChange rootSmallsWrong)

/-- 'tabardlaw5.RootLeft': WHATEVER THE INPUT: true; the input reads as it did. -/
def rootLeftSpec : ChangeSpec := { name := "rootLeft", fn := fun _ => fun
  | [d1, d2] => { results := [.lit (.bool true)], args := [d1, d2] }
  | _ => none }
def rootLeftRow : OpenClaim := { program := "ytnefacnceemklaadoor", sum := "57d70901ecbed9add0c0f448c8965646681752941a6d8c0d9af741ff6da7cc5b", func := "tabard/tabardlaw5.RootLeft", spec := "rootLeft", inPlace := ["math/bits.Add64", "math/bits.Sub64"], unfollowed := true, recurses := true, named := ["math/bits.divideError", "math/bits.overflowError", "tabard/arith.products", "tabard/arith.sums"], apart := false, laid := [("tabard/arith.sums", laid_tabard_arith_sums), ("tabard/arith.products", laid_tabard_arith_products)] }
def RootLeftSaid : Prop := rootLeftRow.holds Tryd.pinned (OpenSpec.ofChange rootLeftSpec)

/-- ITS FALSE NEIGHBOUR: 'it returns false'. Refute it at one input. -/
def rootLeftWrong : ChangeSpec := { name := "rootLeft", fn := fun _ => fun
  | [d1, d2] => { results := [.lit (.bool false)], args := [d1, d2] }
  | _ => none }
def RootLeftWrongFalsely : Prop := rootLeftRow.holds Tryd.pinned (OpenSpec.ofChange rootLeftWrong)

/-- 'tabardlaw5.RootSquares': WHATEVER THE INPUT: true; the input reads as it did. -/
def rootSquaresSpec : ChangeSpec := { name := "rootSquares", fn := fun _ => fun
  | [d1, d2] => { results := [.lit (.bool true)], args := [d1, d2] }
  | _ => none }
def rootSquaresRow : OpenClaim := { program := "ytnefacnceemklaadoor", sum := "57d70901ecbed9add0c0f448c8965646681752941a6d8c0d9af741ff6da7cc5b", func := "tabard/tabardlaw5.RootSquares", spec := "rootSquares", inPlace := ["math/bits.Add64", "math/bits.Sub64"], unfollowed := true, recurses := true, named := ["math/bits.divideError", "math/bits.overflowError", "tabard/arith.products", "tabard/arith.sums"], apart := false, laid := [("tabard/arith.sums", laid_tabard_arith_sums), ("tabard/arith.products", laid_tabard_arith_products)] }
def RootSquaresSaid : Prop := rootSquaresRow.holds Tryd.pinned (OpenSpec.ofChange rootSquaresSpec)

/-- ITS FALSE NEIGHBOUR: 'it returns false'. Refute it at one input. -/
def rootSquaresWrong : ChangeSpec := { name := "rootSquares", fn := fun _ => fun
  | [d1, d2] => { results := [.lit (.bool false)], args := [d1, d2] }
  | _ => none }
def RootSquaresWrongFalsely : Prop := rootSquaresRow.holds Tryd.pinned (OpenSpec.ofChange rootSquaresWrong)

/-- 'tabardlaw6.WholeNears': WHATEVER THE INPUT: true; the input reads as it did. -/
def wholeNearsSpec : ChangeSpec := { name := "wholeNears", fn := fun _ => fun
  | [d] => { results := [.lit (.bool true)], args := [d] }
  | _ => none }
def wholeNearsRow : OpenClaim := { program := "ytnefacnceemklaadoor", sum := "57d70901ecbed9add0c0f448c8965646681752941a6d8c0d9af741ff6da7cc5b", func := "tabard/tabardlaw6.WholeNears", spec := "wholeNears", inPlace := ["math/bits.Add64", "math/bits.Sub64"], unfollowed := true, recurses := true, named := ["tabard/arith.sums"], apart := false, laid := [("tabard/arith.sums", laid_tabard_arith_sums)] }
def WholeNearsSaid : Prop := wholeNearsRow.holds Tryd.pinned (OpenSpec.ofChange wholeNearsSpec)

/-- ITS FALSE NEIGHBOUR: 'it returns false'. Refute it at one input. -/
def wholeNearsWrong : ChangeSpec := { name := "wholeNears", fn := fun _ => fun
  | [d] => { results := [.lit (.bool false)], args := [d] }
  | _ => none }
def WholeNearsWrongFalsely : Prop := wholeNearsRow.holds Tryd.pinned (OpenSpec.ofChange wholeNearsWrong)

/- THE SECOND FORM. 'bulk': how many values and letters a reading holds, each counted each time it is reached (what is shared counts as often as it is met; a slice's spare places count too). A statement '..UptoSaid' is the law's where the arguments, and the package variables that the reading takes, are together of bulk at most 1048576: NARROWER than '..Said'. Prove '..Said' where nothing that the law and all that it calls make is longer than what came in: it says more and counts as full. Else prove '..UptoSaid'. A law counts once. -/
mutual
def uptoBulk {H : Type} : DataW H → Nat
  | .lit (.string bytes) => bytes.length + 1
  | .lit _ => 1
  | .nil => 1
  | .ptr d => uptoBulk d + 1
  | .slice elems spare => uptoBulkAll elems + uptoBulkAll spare + 1
  | .agg parts => uptoBulkAll parts + 1
  | .iface _ d => uptoBulk d + 1
  | .map entries => uptoBulkEntries entries + 1
  | .held _ => 1
def uptoBulkAll {H : Type} : List (DataW H) → Nat
  | [] => 0
  | d :: r => uptoBulk d + uptoBulkAll r
def uptoBulkEntries {H : Type} : List (Lit × DataW H) → Nat
  | [] => 0
  | x :: r => uptoBulkEntry x + uptoBulkEntries r
def uptoBulkEntry {H : Type} : Lit × DataW H → Nat
  | (.string bytes, d) => bytes.length + uptoBulk d + 1
  | (_, d) => uptoBulk d + 1
 end
def uptoSmall : (H : Type) → List (DataW H) → Bool := fun _ ds => decide (uptoBulkAll ds ≤ 1048576)
def OpenSpec.upto (s : _root_.Go.ChangeSpec) : _root_.Go.OpenSpec := { _root_.Go.OpenSpec.ofChange s with cond := some uptoSmall }

/-- 'tabardlaw5.RootDivs', WHERE WHAT IT READS IS OF BULK AT MOST 1048576: true; the input reads as it did. -/
def rootDivsUptoRow : OpenClaim := { program := "ytnefacnceemklaadoor", sum := "57d70901ecbed9add0c0f448c8965646681752941a6d8c0d9af741ff6da7cc5b", func := "tabard/tabardlaw5.RootDivs", spec := "rootDivs", inPlace := ["math/bits.Add64", "math/bits.Sub64"], unfollowed := true, recurses := true, named := ["math/bits.divideError", "math/bits.overflowError", "tabard/arith.products", "tabard/arith.sums"], apart := false, laid := [("tabard/arith.sums", laid_tabard_arith_sums), ("tabard/arith.products", laid_tabard_arith_products)], narrowed := true }
def RootDivsUptoSaid : Prop := rootDivsUptoRow.holds Tryd.pinned (OpenSpec.upto rootDivsSpec)

/-- 'tabardlaw5.RootRoots', WHERE WHAT IT READS IS OF BULK AT MOST 1048576: true; the input reads as it did. -/
def rootRootsUptoRow : OpenClaim := { program := "ytnefacnceemklaadoor", sum := "57d70901ecbed9add0c0f448c8965646681752941a6d8c0d9af741ff6da7cc5b", func := "tabard/tabardlaw5.RootRoots", spec := "rootRoots", inPlace := ["math/bits.Add64", "math/bits.Sub64"], unfollowed := true, recurses := true, named := ["math/bits.divideError", "math/bits.overflowError", "tabard/arith.products", "tabard/arith.sums"], apart := false, laid := [("tabard/arith.sums", laid_tabard_arith_sums), ("tabard/arith.products", laid_tabard_arith_products)], narrowed := true }
def RootRootsUptoSaid : Prop := rootRootsUptoRow.holds Tryd.pinned (OpenSpec.upto rootRootsSpec)

/-- 'tabardlaw5.RootFuses', WHERE WHAT IT READS IS OF BULK AT MOST 1048576: true; the input reads as it did. -/
def rootFusesUptoRow : OpenClaim := { program := "ytnefacnceemklaadoor", sum := "57d70901ecbed9add0c0f448c8965646681752941a6d8c0d9af741ff6da7cc5b", func := "tabard/tabardlaw5.RootFuses", spec := "rootFuses", inPlace := ["math/bits.Add64", "math/bits.Sub64"], unfollowed := true, recurses := true, named := ["math/bits.divideError", "math/bits.overflowError", "tabard/arith.products", "tabard/arith.sums"], apart := false, laid := [("tabard/arith.sums", laid_tabard_arith_sums), ("tabard/arith.products", laid_tabard_arith_products)], narrowed := true }
def RootFusesUptoSaid : Prop := rootFusesUptoRow.holds Tryd.pinned (OpenSpec.upto rootFusesSpec)

/-- 'tabardlaw5.RootMods', WHERE WHAT IT READS IS OF BULK AT MOST 1048576: true; the input reads as it did. -/
def rootModsUptoRow : OpenClaim := { program := "ytnefacnceemklaadoor", sum := "57d70901ecbed9add0c0f448c8965646681752941a6d8c0d9af741ff6da7cc5b", func := "tabard/tabardlaw5.RootMods", spec := "rootMods", inPlace := ["math/bits.Add64", "math/bits.Sub64"], unfollowed := true, recurses := true, named := ["math/bits.divideError", "math/bits.overflowError", "tabard/arith.products", "tabard/arith.sums"], apart := false, laid := [("tabard/arith.sums", laid_tabard_arith_sums), ("tabard/arith.products", laid_tabard_arith_products)], narrowed := true }
def RootModsUptoSaid : Prop := rootModsUptoRow.holds Tryd.pinned (OpenSpec.upto rootModsSpec)

/-- 'tabardlaw5.RootPowers', WHERE WHAT IT READS IS OF BULK AT MOST 1048576: true; the input reads as it did. -/
def rootPowersUptoRow : OpenClaim := { program := "ytnefacnceemklaadoor", sum := "57d70901ecbed9add0c0f448c8965646681752941a6d8c0d9af741ff6da7cc5b", func := "tabard/tabardlaw5.RootPowers", spec := "rootPowers", inPlace := ["math/bits.Add64", "math/bits.Sub64"], unfollowed := true, recurses := true, named := ["math/bits.divideError", "math/bits.overflowError", "tabard/arith.products", "tabard/arith.sums"], apart := false, laid := [("tabard/arith.sums", laid_tabard_arith_sums), ("tabard/arith.products", laid_tabard_arith_products)], narrowed := true }
def RootPowersUptoSaid : Prop := rootPowersUptoRow.holds Tryd.pinned (OpenSpec.upto rootPowersSpec)

/-- 'tabardlaw5.RootPlain', WHERE WHAT IT READS IS OF BULK AT MOST 1048576: true; the input reads as it did. -/
def rootPlainUptoRow : OpenClaim := { program := "ytnefacnceemklaadoor", sum := "57d70901ecbed9add0c0f448c8965646681752941a6d8c0d9af741ff6da7cc5b", func := "tabard/tabardlaw5.RootPlain", spec := "rootPlain", inPlace := ["math/bits.Add64", "math/bits.Sub64"], unfollowed := true, recurses := true, named := ["math/bits.divideError", "math/bits.overflowError", "tabard/arith.products", "tabard/arith.sums"], apart := false, laid := [("tabard/arith.sums", laid_tabard_arith_sums), ("tabard/arith.products", laid_tabard_arith_products)], narrowed := true }
def RootPlainUptoSaid : Prop := rootPlainUptoRow.holds Tryd.pinned (OpenSpec.upto rootPlainSpec)

/-- 'tabardlaw5.RootSmalls', WHERE WHAT IT READS IS OF BULK AT MOST 1048576: true; the input reads as it did. -/
def rootSmallsUptoRow : OpenClaim := { program := "ytnefacnceemklaadoor", sum := "57d70901ecbed9add0c0f448c8965646681752941a6d8c0d9af741ff6da7cc5b", func := "tabard/tabardlaw5.RootSmalls", spec := "rootSmalls", inPlace := ["math/bits.Add64", "math/bits.Sub64"], unfollowed := true, recurses := true, named := ["math/bits.divideError", "math/bits.overflowError", "tabard/arith.products", "tabard/arith.sums"], apart := false, laid := [("tabard/arith.sums", laid_tabard_arith_sums), ("tabard/arith.products", laid_tabard_arith_products)], narrowed := true }
def RootSmallsUptoSaid : Prop := rootSmallsUptoRow.holds Tryd.pinned (OpenSpec.upto rootSmallsSpec)

/-- 'tabardlaw5.RootLeft', WHERE WHAT IT READS IS OF BULK AT MOST 1048576: true; the input reads as it did. -/
def rootLeftUptoRow : OpenClaim := { program := "ytnefacnceemklaadoor", sum := "57d70901ecbed9add0c0f448c8965646681752941a6d8c0d9af741ff6da7cc5b", func := "tabard/tabardlaw5.RootLeft", spec := "rootLeft", inPlace := ["math/bits.Add64", "math/bits.Sub64"], unfollowed := true, recurses := true, named := ["math/bits.divideError", "math/bits.overflowError", "tabard/arith.products", "tabard/arith.sums"], apart := false, laid := [("tabard/arith.sums", laid_tabard_arith_sums), ("tabard/arith.products", laid_tabard_arith_products)], narrowed := true }
def RootLeftUptoSaid : Prop := rootLeftUptoRow.holds Tryd.pinned (OpenSpec.upto rootLeftSpec)

/-- 'tabardlaw5.RootSquares', WHERE WHAT IT READS IS OF BULK AT MOST 1048576: true; the input reads as it did. -/
def rootSquaresUptoRow : OpenClaim := { program := "ytnefacnceemklaadoor", sum := "57d70901ecbed9add0c0f448c8965646681752941a6d8c0d9af741ff6da7cc5b", func := "tabard/tabardlaw5.RootSquares", spec := "rootSquares", inPlace := ["math/bits.Add64", "math/bits.Sub64"], unfollowed := true, recurses := true, named := ["math/bits.divideError", "math/bits.overflowError", "tabard/arith.products", "tabard/arith.sums"], apart := false, laid := [("tabard/arith.sums", laid_tabard_arith_sums), ("tabard/arith.products", laid_tabard_arith_products)], narrowed := true }
def RootSquaresUptoSaid : Prop := rootSquaresUptoRow.holds Tryd.pinned (OpenSpec.upto rootSquaresSpec)

/-- 'tabardlaw6.WholeNears', WHERE WHAT IT READS IS OF BULK AT MOST 1048576: true; the input reads as it did. -/
def wholeNearsUptoRow : OpenClaim := { program := "ytnefacnceemklaadoor", sum := "57d70901ecbed9add0c0f448c8965646681752941a6d8c0d9af741ff6da7cc5b", func := "tabard/tabardlaw6.WholeNears", spec := "wholeNears", inPlace := ["math/bits.Add64", "math/bits.Sub64"], unfollowed := true, recurses := true, named := ["tabard/arith.sums"], apart := false, laid := [("tabard/arith.sums", laid_tabard_arith_sums)], narrowed := true }
def WholeNearsUptoSaid : Prop := wholeNearsUptoRow.holds Tryd.pinned (OpenSpec.upto wholeNearsSpec)

end Rows
end Go.Proofs.YtnefacnceemklaaDoor
