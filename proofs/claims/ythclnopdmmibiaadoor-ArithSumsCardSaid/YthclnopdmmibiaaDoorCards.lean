/-
  DERIVED. GIVEN WITH THE SEED: THE CARDS: each row of YthclnopdmmibiaaDoorRows.lean that lists a variable, with what it lists TIED to the program's text (the seventh form; the later family's looks); each row that meets fmt, with fmt's text TOLD by the authors' own Lean function (tested against real Go, not proved from fmt's source: count such statements apart). THE CARD IS WHAT COUNTS. Prove the row's statement (the work); the ties are given (YthclnopdmmibiaaDoorTie.lean); close each card by the builder's one call (the guide's Derived/Test/ToyasCard.lean, 'card_holds'). Laid BY PROGRAM, IN A SANDBOX (cutbox-door.mjs). By AI agents, Wed Nov 11 2026. No macro, syntax, notation, axiom, sorry.
-/
import Derived.Test.YthclnopdmmibiaaDoorRows
import GoSem.ClaimSeven
namespace Go.Proofs.YthclnopdmmibiaaDoor
namespace Rows

/-- THE TIED CARD OF 'tabardlaw4.ArithAdds'. -/
def arithAddsCard : Claim7 := { stood := { row := arithAddsRow, standIns := [], harness := (true, "fd285b842fde346a237e424dbb69a32ad0db03fa07d9b599fd4b6a1be090d0e9"), looks := false }, kinds := [], alts := [], laidByText := true, laidKinds := [.data, .data], laidTests := true, laidLooks := .later }
def ArithAddsCardSaid : Prop := Claim7.holds Tryd.pinned (.plain (OpenSpec.ofChange arithAddsSpec)) arithAddsCard

/-- THE TIED CARD OF 'tabardlaw4.ArithMuls'. -/
def arithMulsCard : Claim7 := { stood := { row := arithMulsRow, standIns := [], harness := (true, "fd285b842fde346a237e424dbb69a32ad0db03fa07d9b599fd4b6a1be090d0e9"), looks := false }, kinds := [], alts := [], laidByText := true, laidKinds := [.data, .data], laidTests := true, laidLooks := .later }
def ArithMulsCardSaid : Prop := Claim7.holds Tryd.pinned (.plain (OpenSpec.ofChange arithMulsSpec)) arithMulsCard

/-- THE TIED CARD OF 'tabardlaw4.ArithSums'. -/
def arithSumsCard : Claim7 := { stood := { row := arithSumsRow, standIns := [], harness := (true, "fd285b842fde346a237e424dbb69a32ad0db03fa07d9b599fd4b6a1be090d0e9"), looks := false }, kinds := [], alts := [], laidByText := true, laidKinds := [.data, .data], laidTests := true, laidLooks := .later }
def ArithSumsCardSaid : Prop := Claim7.holds Tryd.pinned (.plain (OpenSpec.ofChange arithSumsSpec)) arithSumsCard

/-- THE SECOND FORM's CARD OF 'tabardlaw4.ArithAdds'. -/
def arithAddsUptoCard : Claim7 := { stood := { row := arithAddsUptoRow, standIns := [], harness := (true, "fd285b842fde346a237e424dbb69a32ad0db03fa07d9b599fd4b6a1be090d0e9"), looks := false }, kinds := [], alts := [], laidByText := true, laidKinds := [.data, .data], laidTests := true, laidLooks := .later }
def ArithAddsUptoCardSaid : Prop := Claim7.holds Tryd.pinned (.plain (OpenSpec.upto arithAddsSpec)) arithAddsUptoCard

/-- THE SECOND FORM's CARD OF 'tabardlaw4.ArithMuls'. -/
def arithMulsUptoCard : Claim7 := { stood := { row := arithMulsUptoRow, standIns := [], harness := (true, "fd285b842fde346a237e424dbb69a32ad0db03fa07d9b599fd4b6a1be090d0e9"), looks := false }, kinds := [], alts := [], laidByText := true, laidKinds := [.data, .data], laidTests := true, laidLooks := .later }
def ArithMulsUptoCardSaid : Prop := Claim7.holds Tryd.pinned (.plain (OpenSpec.upto arithMulsSpec)) arithMulsUptoCard

/-- THE SECOND FORM's CARD OF 'tabardlaw4.ArithSums'. -/
def arithSumsUptoCard : Claim7 := { stood := { row := arithSumsUptoRow, standIns := [], harness := (true, "fd285b842fde346a237e424dbb69a32ad0db03fa07d9b599fd4b6a1be090d0e9"), looks := false }, kinds := [], alts := [], laidByText := true, laidKinds := [.data, .data], laidTests := true, laidLooks := .later }
def ArithSumsUptoCardSaid : Prop := Claim7.holds Tryd.pinned (.plain (OpenSpec.upto arithSumsSpec)) arithSumsUptoCard
end Rows
end Go.Proofs.YthclnopdmmibiaaDoor
