/-
  DERIVED. GIVEN WITH THE SEED: THE CARDS: each row of YtnefacnceemklaaDoorRows.lean that lists a variable, with what it lists TIED to the program's text (the seventh form; the later family's looks); each row that meets fmt, with fmt's text TOLD by the authors' own Lean function (tested against real Go, not proved from fmt's source: count such statements apart). THE CARD IS WHAT COUNTS. Prove the row's statement (the work); the ties are given (YtnefacnceemklaaDoorTie.lean); close each card by the builder's one call (the guide's Derived/Test/ToyasCard.lean, 'card_holds'). Laid BY PROGRAM, IN A SANDBOX (cutbox-door.mjs). By AI agents, Wed Nov 11 2026. No macro, syntax, notation, axiom, sorry.
-/
import Derived.Test.YtnefacnceemklaaDoorRows
import GoSem.ClaimSeven
namespace Go.Proofs.YtnefacnceemklaaDoor
namespace Rows

/-- THE TIED CARD OF 'tabardlaw5.RootDivs'. -/
def rootDivsCard : Claim7 := { stood := { row := rootDivsRow, standIns := [], harness := (true, "61668750b094487bd65fc272e937d8a3bbee926b69471dd422a542d397f62852"), looks := false }, kinds := [], alts := [], laidByText := true, laidKinds := [.data, .data], laidTests := true, laidLooks := .later }
def RootDivsCardSaid : Prop := Claim7.holds Tryd.pinned (.plain (OpenSpec.ofChange rootDivsSpec)) rootDivsCard

/-- THE TIED CARD OF 'tabardlaw5.RootRoots'. -/
def rootRootsCard : Claim7 := { stood := { row := rootRootsRow, standIns := [], harness := (true, "61668750b094487bd65fc272e937d8a3bbee926b69471dd422a542d397f62852"), looks := false }, kinds := [], alts := [], laidByText := true, laidKinds := [.data, .data], laidTests := true, laidLooks := .later }
def RootRootsCardSaid : Prop := Claim7.holds Tryd.pinned (.plain (OpenSpec.ofChange rootRootsSpec)) rootRootsCard

/-- THE TIED CARD OF 'tabardlaw5.RootFuses'. -/
def rootFusesCard : Claim7 := { stood := { row := rootFusesRow, standIns := [], harness := (true, "61668750b094487bd65fc272e937d8a3bbee926b69471dd422a542d397f62852"), looks := false }, kinds := [], alts := [], laidByText := true, laidKinds := [.data, .data], laidTests := true, laidLooks := .later }
def RootFusesCardSaid : Prop := Claim7.holds Tryd.pinned (.plain (OpenSpec.ofChange rootFusesSpec)) rootFusesCard

/-- THE TIED CARD OF 'tabardlaw5.RootMods'. -/
def rootModsCard : Claim7 := { stood := { row := rootModsRow, standIns := [], harness := (true, "61668750b094487bd65fc272e937d8a3bbee926b69471dd422a542d397f62852"), looks := false }, kinds := [], alts := [], laidByText := true, laidKinds := [.data, .data], laidTests := true, laidLooks := .later }
def RootModsCardSaid : Prop := Claim7.holds Tryd.pinned (.plain (OpenSpec.ofChange rootModsSpec)) rootModsCard

/-- THE TIED CARD OF 'tabardlaw5.RootPowers'. -/
def rootPowersCard : Claim7 := { stood := { row := rootPowersRow, standIns := [], harness := (true, "61668750b094487bd65fc272e937d8a3bbee926b69471dd422a542d397f62852"), looks := false }, kinds := [], alts := [], laidByText := true, laidKinds := [.data, .data], laidTests := true, laidLooks := .later }
def RootPowersCardSaid : Prop := Claim7.holds Tryd.pinned (.plain (OpenSpec.ofChange rootPowersSpec)) rootPowersCard

/-- THE TIED CARD OF 'tabardlaw5.RootPlain'. -/
def rootPlainCard : Claim7 := { stood := { row := rootPlainRow, standIns := [], harness := (true, "61668750b094487bd65fc272e937d8a3bbee926b69471dd422a542d397f62852"), looks := false }, kinds := [], alts := [], laidByText := true, laidKinds := [.data, .data], laidTests := true, laidLooks := .later }
def RootPlainCardSaid : Prop := Claim7.holds Tryd.pinned (.plain (OpenSpec.ofChange rootPlainSpec)) rootPlainCard

/-- THE TIED CARD OF 'tabardlaw5.RootSmalls'. -/
def rootSmallsCard : Claim7 := { stood := { row := rootSmallsRow, standIns := [], harness := (true, "61668750b094487bd65fc272e937d8a3bbee926b69471dd422a542d397f62852"), looks := false }, kinds := [], alts := [], laidByText := true, laidKinds := [.data, .data], laidTests := true, laidLooks := .later }
def RootSmallsCardSaid : Prop := Claim7.holds Tryd.pinned (.plain (OpenSpec.ofChange rootSmallsSpec)) rootSmallsCard

/-- THE TIED CARD OF 'tabardlaw5.RootLeft'. -/
def rootLeftCard : Claim7 := { stood := { row := rootLeftRow, standIns := [], harness := (true, "61668750b094487bd65fc272e937d8a3bbee926b69471dd422a542d397f62852"), looks := false }, kinds := [], alts := [], laidByText := true, laidKinds := [.data, .data], laidTests := true, laidLooks := .later }
def RootLeftCardSaid : Prop := Claim7.holds Tryd.pinned (.plain (OpenSpec.ofChange rootLeftSpec)) rootLeftCard

/-- THE TIED CARD OF 'tabardlaw5.RootSquares'. -/
def rootSquaresCard : Claim7 := { stood := { row := rootSquaresRow, standIns := [], harness := (true, "61668750b094487bd65fc272e937d8a3bbee926b69471dd422a542d397f62852"), looks := false }, kinds := [], alts := [], laidByText := true, laidKinds := [.data, .data], laidTests := true, laidLooks := .later }
def RootSquaresCardSaid : Prop := Claim7.holds Tryd.pinned (.plain (OpenSpec.ofChange rootSquaresSpec)) rootSquaresCard

/-- THE TIED CARD OF 'tabardlaw6.WholeNears'. -/
def wholeNearsCard : Claim7 := { stood := { row := wholeNearsRow, standIns := [], harness := (true, "61668750b094487bd65fc272e937d8a3bbee926b69471dd422a542d397f62852"), looks := false }, kinds := [], alts := [], laidByText := true, laidKinds := [.data], laidTests := true, laidLooks := .later }
def WholeNearsCardSaid : Prop := Claim7.holds Tryd.pinned (.plain (OpenSpec.ofChange wholeNearsSpec)) wholeNearsCard

/-- THE SECOND FORM's CARD OF 'tabardlaw5.RootDivs'. -/
def rootDivsUptoCard : Claim7 := { stood := { row := rootDivsUptoRow, standIns := [], harness := (true, "61668750b094487bd65fc272e937d8a3bbee926b69471dd422a542d397f62852"), looks := false }, kinds := [], alts := [], laidByText := true, laidKinds := [.data, .data], laidTests := true, laidLooks := .later }
def RootDivsUptoCardSaid : Prop := Claim7.holds Tryd.pinned (.plain (OpenSpec.upto rootDivsSpec)) rootDivsUptoCard

/-- THE SECOND FORM's CARD OF 'tabardlaw5.RootRoots'. -/
def rootRootsUptoCard : Claim7 := { stood := { row := rootRootsUptoRow, standIns := [], harness := (true, "61668750b094487bd65fc272e937d8a3bbee926b69471dd422a542d397f62852"), looks := false }, kinds := [], alts := [], laidByText := true, laidKinds := [.data, .data], laidTests := true, laidLooks := .later }
def RootRootsUptoCardSaid : Prop := Claim7.holds Tryd.pinned (.plain (OpenSpec.upto rootRootsSpec)) rootRootsUptoCard

/-- THE SECOND FORM's CARD OF 'tabardlaw5.RootFuses'. -/
def rootFusesUptoCard : Claim7 := { stood := { row := rootFusesUptoRow, standIns := [], harness := (true, "61668750b094487bd65fc272e937d8a3bbee926b69471dd422a542d397f62852"), looks := false }, kinds := [], alts := [], laidByText := true, laidKinds := [.data, .data], laidTests := true, laidLooks := .later }
def RootFusesUptoCardSaid : Prop := Claim7.holds Tryd.pinned (.plain (OpenSpec.upto rootFusesSpec)) rootFusesUptoCard

/-- THE SECOND FORM's CARD OF 'tabardlaw5.RootMods'. -/
def rootModsUptoCard : Claim7 := { stood := { row := rootModsUptoRow, standIns := [], harness := (true, "61668750b094487bd65fc272e937d8a3bbee926b69471dd422a542d397f62852"), looks := false }, kinds := [], alts := [], laidByText := true, laidKinds := [.data, .data], laidTests := true, laidLooks := .later }
def RootModsUptoCardSaid : Prop := Claim7.holds Tryd.pinned (.plain (OpenSpec.upto rootModsSpec)) rootModsUptoCard

/-- THE SECOND FORM's CARD OF 'tabardlaw5.RootPowers'. -/
def rootPowersUptoCard : Claim7 := { stood := { row := rootPowersUptoRow, standIns := [], harness := (true, "61668750b094487bd65fc272e937d8a3bbee926b69471dd422a542d397f62852"), looks := false }, kinds := [], alts := [], laidByText := true, laidKinds := [.data, .data], laidTests := true, laidLooks := .later }
def RootPowersUptoCardSaid : Prop := Claim7.holds Tryd.pinned (.plain (OpenSpec.upto rootPowersSpec)) rootPowersUptoCard

/-- THE SECOND FORM's CARD OF 'tabardlaw5.RootPlain'. -/
def rootPlainUptoCard : Claim7 := { stood := { row := rootPlainUptoRow, standIns := [], harness := (true, "61668750b094487bd65fc272e937d8a3bbee926b69471dd422a542d397f62852"), looks := false }, kinds := [], alts := [], laidByText := true, laidKinds := [.data, .data], laidTests := true, laidLooks := .later }
def RootPlainUptoCardSaid : Prop := Claim7.holds Tryd.pinned (.plain (OpenSpec.upto rootPlainSpec)) rootPlainUptoCard

/-- THE SECOND FORM's CARD OF 'tabardlaw5.RootSmalls'. -/
def rootSmallsUptoCard : Claim7 := { stood := { row := rootSmallsUptoRow, standIns := [], harness := (true, "61668750b094487bd65fc272e937d8a3bbee926b69471dd422a542d397f62852"), looks := false }, kinds := [], alts := [], laidByText := true, laidKinds := [.data, .data], laidTests := true, laidLooks := .later }
def RootSmallsUptoCardSaid : Prop := Claim7.holds Tryd.pinned (.plain (OpenSpec.upto rootSmallsSpec)) rootSmallsUptoCard

/-- THE SECOND FORM's CARD OF 'tabardlaw5.RootLeft'. -/
def rootLeftUptoCard : Claim7 := { stood := { row := rootLeftUptoRow, standIns := [], harness := (true, "61668750b094487bd65fc272e937d8a3bbee926b69471dd422a542d397f62852"), looks := false }, kinds := [], alts := [], laidByText := true, laidKinds := [.data, .data], laidTests := true, laidLooks := .later }
def RootLeftUptoCardSaid : Prop := Claim7.holds Tryd.pinned (.plain (OpenSpec.upto rootLeftSpec)) rootLeftUptoCard

/-- THE SECOND FORM's CARD OF 'tabardlaw5.RootSquares'. -/
def rootSquaresUptoCard : Claim7 := { stood := { row := rootSquaresUptoRow, standIns := [], harness := (true, "61668750b094487bd65fc272e937d8a3bbee926b69471dd422a542d397f62852"), looks := false }, kinds := [], alts := [], laidByText := true, laidKinds := [.data, .data], laidTests := true, laidLooks := .later }
def RootSquaresUptoCardSaid : Prop := Claim7.holds Tryd.pinned (.plain (OpenSpec.upto rootSquaresSpec)) rootSquaresUptoCard

/-- THE SECOND FORM's CARD OF 'tabardlaw6.WholeNears'. -/
def wholeNearsUptoCard : Claim7 := { stood := { row := wholeNearsUptoRow, standIns := [], harness := (true, "61668750b094487bd65fc272e937d8a3bbee926b69471dd422a542d397f62852"), looks := false }, kinds := [], alts := [], laidByText := true, laidKinds := [.data], laidTests := true, laidLooks := .later }
def WholeNearsUptoCardSaid : Prop := Claim7.holds Tryd.pinned (.plain (OpenSpec.upto wholeNearsSpec)) wholeNearsUptoCard
end Rows
end Go.Proofs.YtnefacnceemklaaDoor
