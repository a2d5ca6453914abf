/-
  DERIVED. GIVEN WITH THE SEED: THE CARDS: each row of YtoogcbniphoaoaaDoorRows.lean that lists a variable, with what it lists TIED to the program's text (the seventh form; the later family's looks); each row that meets fmt, with fmt's text TOLD by the authors' own Lean function (tested against real Go, not proved from fmt's source: count such statements apart). THE CARD IS WHAT COUNTS. Prove the row's statement (the work); the ties are given (YtoogcbniphoaoaaDoorTie.lean); close each card by the builder's one call (the guide's Derived/Test/ToyasCard.lean, 'card_holds'). Laid BY PROGRAM, IN A SANDBOX (cutbox-door.mjs). By AI agents, Wed Nov 11 2026. No macro, syntax, notation, axiom, sorry.
-/
import Derived.Test.YtoogcbniphoaoaaDoorRows
import GoSem.ClaimSeven
namespace Go.Proofs.YtoogcbniphoaoaaDoor
namespace Rows

/-- THE TIED CARD OF 'promptbooklaw12.GameStays'. -/
def gameStaysCard : Claim7 := { stood := { row := gameStaysRow, standIns := [], harness := (true, "962f3041ddc94077e6a0a93b651dfb93742d2c3e955c4d88f5cebbf202530451"), looks := false }, kinds := [], alts := [], laidByText := true, laidKinds := [.data, .data], laidTests := true, laidLooks := .later }
def GameStaysCardSaid : Prop := Claim7.holds Tryd.pinned (.plain (OpenSpec.ofChange gameStaysSpec)) gameStaysCard

/-- THE TIED CARD OF 'promptbooklaw12.GameParts'. -/
def gamePartsCard : Claim7 := { stood := { row := gamePartsRow, standIns := [], harness := (true, "962f3041ddc94077e6a0a93b651dfb93742d2c3e955c4d88f5cebbf202530451"), looks := false }, kinds := [], alts := [], laidByText := true, laidKinds := [.data, .data], laidTests := true, laidLooks := .later }
def GamePartsCardSaid : Prop := Claim7.holds Tryd.pinned (.plain (OpenSpec.ofChange gamePartsSpec)) gamePartsCard

/-- THE SECOND FORM's CARD OF 'promptbooklaw12.GameStays'. -/
def gameStaysUptoCard : Claim7 := { stood := { row := gameStaysUptoRow, standIns := [], harness := (true, "962f3041ddc94077e6a0a93b651dfb93742d2c3e955c4d88f5cebbf202530451"), looks := false }, kinds := [], alts := [], laidByText := true, laidKinds := [.data, .data], laidTests := true, laidLooks := .later }
def GameStaysUptoCardSaid : Prop := Claim7.holds Tryd.pinned (.plain (OpenSpec.upto gameStaysSpec)) gameStaysUptoCard

/-- THE SECOND FORM's CARD OF 'promptbooklaw12.GameParts'. -/
def gamePartsUptoCard : Claim7 := { stood := { row := gamePartsUptoRow, standIns := [], harness := (true, "962f3041ddc94077e6a0a93b651dfb93742d2c3e955c4d88f5cebbf202530451"), looks := false }, kinds := [], alts := [], laidByText := true, laidKinds := [.data, .data], laidTests := true, laidLooks := .later }
def GamePartsUptoCardSaid : Prop := Claim7.holds Tryd.pinned (.plain (OpenSpec.upto gamePartsSpec)) gamePartsUptoCard
end Rows
end Go.Proofs.YtoogcbniphoaoaaDoor
