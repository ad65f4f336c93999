/-
  DERIVED. GIVEN WITH THE SEED: THE CARDS: each row of YtgaaaokhggeglaaDoorRows.lean that lists a variable, with what it lists TIED to the program's text (the seventh form; the later family's looks); each row that meets fmt, with fmt's text TOLD by the authors' own Lean function (tested against real Go, not proved from fmt's source: count such statements apart). THE CARD IS WHAT COUNTS. Prove the row's statement (the work); the ties are given (YtgaaaokhggeglaaDoorTie.lean); close each card by the builder's one call (the guide's Derived/Test/ToyasCard.lean, 'card_holds'). Laid BY PROGRAM, IN A SANDBOX (cutbox-door.mjs). By AI agents, Wed Nov 11 2026. No macro, syntax, notation, axiom, sorry.
-/
import Derived.Test.YtgaaaokhggeglaaDoorRows
import GoSem.ClaimSeven
namespace Go.Proofs.YtgaaaokhggeglaaDoor
namespace Rows

/-- THE TIED CARD OF 'tabardlaw4.ArithTurns'. -/
def arithTurnsCard : Claim7 := { stood := { row := arithTurnsRow, standIns := [], harness := (true, "ad19bcb8a7062e70ee62af90f06523f37f628f91ecd0aa6d4c915cac4630d1d1"), looks := false }, kinds := [], alts := [], laidByText := true, laidKinds := [.data, .data], laidTests := true, laidLooks := .later }
def ArithTurnsCardSaid : Prop := Claim7.holds Tryd.pinned (.plain (OpenSpec.ofChange arithTurnsSpec)) arithTurnsCard

/-- THE TIED CARD OF 'tabardlaw4.ArithPlain'. -/
def arithPlainCard : Claim7 := { stood := { row := arithPlainRow, standIns := [], harness := (true, "ad19bcb8a7062e70ee62af90f06523f37f628f91ecd0aa6d4c915cac4630d1d1"), looks := false }, kinds := [], alts := [], laidByText := true, laidKinds := [.data, .data], laidTests := true, laidLooks := .later }
def ArithPlainCardSaid : Prop := Claim7.holds Tryd.pinned (.plain (OpenSpec.ofChange arithPlainSpec)) arithPlainCard

/-- THE TIED CARD OF 'tabardlaw4.ArithOrders'. -/
def arithOrdersCard : Claim7 := { stood := { row := arithOrdersRow, standIns := [], harness := (true, "ad19bcb8a7062e70ee62af90f06523f37f628f91ecd0aa6d4c915cac4630d1d1"), looks := false }, kinds := [], alts := [], laidByText := true, laidKinds := [.data, .data], laidTests := true, laidLooks := .later }
def ArithOrdersCardSaid : Prop := Claim7.holds Tryd.pinned (.plain (OpenSpec.ofChange arithOrdersSpec)) arithOrdersCard

/-- THE TIED CARD OF 'tabardlaw4.ArithExact'. -/
def arithExactCard : Claim7 := { stood := { row := arithExactRow, standIns := [], harness := (true, "ad19bcb8a7062e70ee62af90f06523f37f628f91ecd0aa6d4c915cac4630d1d1"), looks := false }, kinds := [], alts := [], laidByText := true, laidKinds := [.data, .data], laidTests := true, laidLooks := .later }
def ArithExactCardSaid : Prop := Claim7.holds Tryd.pinned (.plain (OpenSpec.ofChange arithExactSpec)) arithExactCard

/-- THE SECOND FORM's CARD OF 'tabardlaw4.ArithTurns'. -/
def arithTurnsUptoCard : Claim7 := { stood := { row := arithTurnsUptoRow, standIns := [], harness := (true, "ad19bcb8a7062e70ee62af90f06523f37f628f91ecd0aa6d4c915cac4630d1d1"), looks := false }, kinds := [], alts := [], laidByText := true, laidKinds := [.data, .data], laidTests := true, laidLooks := .later }
def ArithTurnsUptoCardSaid : Prop := Claim7.holds Tryd.pinned (.plain (OpenSpec.upto arithTurnsSpec)) arithTurnsUptoCard

/-- THE SECOND FORM's CARD OF 'tabardlaw4.ArithPlain'. -/
def arithPlainUptoCard : Claim7 := { stood := { row := arithPlainUptoRow, standIns := [], harness := (true, "ad19bcb8a7062e70ee62af90f06523f37f628f91ecd0aa6d4c915cac4630d1d1"), looks := false }, kinds := [], alts := [], laidByText := true, laidKinds := [.data, .data], laidTests := true, laidLooks := .later }
def ArithPlainUptoCardSaid : Prop := Claim7.holds Tryd.pinned (.plain (OpenSpec.upto arithPlainSpec)) arithPlainUptoCard

/-- THE SECOND FORM's CARD OF 'tabardlaw4.ArithOrders'. -/
def arithOrdersUptoCard : Claim7 := { stood := { row := arithOrdersUptoRow, standIns := [], harness := (true, "ad19bcb8a7062e70ee62af90f06523f37f628f91ecd0aa6d4c915cac4630d1d1"), looks := false }, kinds := [], alts := [], laidByText := true, laidKinds := [.data, .data], laidTests := true, laidLooks := .later }
def ArithOrdersUptoCardSaid : Prop := Claim7.holds Tryd.pinned (.plain (OpenSpec.upto arithOrdersSpec)) arithOrdersUptoCard

/-- THE SECOND FORM's CARD OF 'tabardlaw4.ArithExact'. -/
def arithExactUptoCard : Claim7 := { stood := { row := arithExactUptoRow, standIns := [], harness := (true, "ad19bcb8a7062e70ee62af90f06523f37f628f91ecd0aa6d4c915cac4630d1d1"), looks := false }, kinds := [], alts := [], laidByText := true, laidKinds := [.data, .data], laidTests := true, laidLooks := .later }
def ArithExactUptoCardSaid : Prop := Claim7.holds Tryd.pinned (.plain (OpenSpec.upto arithExactSpec)) arithExactUptoCard
end Rows
end Go.Proofs.YtgaaaokhggeglaaDoor
