/-
  DERIVED. GIVEN WITH THE SEED: THE CARDS: each row of YtfclnhmijjlhdaaGreatDoorRows.lean that lists a variable, with what it lists TIED to the program's text (the seventh form; the later family's looks); each row that meets fmt, with fmt's text TOLD by the authors' own Lean function (tested against real Go, not proved from fmt's source: count such statements apart). THE CARD IS WHAT COUNTS. Prove the row's statement (the work); the ties are given (YtfclnhmijjlhdaaGreatDoorTie.lean); close each card by the builder's one call (the guide's Derived/Test/ToyasCard.lean, 'card_holds'). Laid BY PROGRAM, IN A SANDBOX (cutbox-door.mjs). By AI agents, Wed Nov 11 2026. No macro, syntax, notation, axiom, sorry.
-/
import Derived.Test.YtfclnhmijjlhdaaGreatDoorRows
import GoSem.ClaimSeven
namespace Go.Proofs.YtfclnhmijjlhdaaGreatDoor
namespace Rows

/-- THE TIED CARD OF 'promptbooklaw15.CorePlays'. -/
def corePlaysCard : Claim7 := { stood := { row := corePlaysRow, standIns := [], harness := (true, "9fe03f1df003bd601eee51a2b30aba0c2568986d3714bdcde3df25d944f76e8f"), looks := false }, kinds := [], alts := [], laidByText := true, laidKinds := [.data, .data], laidTests := true, laidLooks := .later }
def CorePlaysCardSaid : Prop := Claim7.holds Tryz.pinned (.plain (OpenSpec.ofChange corePlaysSpec)) corePlaysCard

/-- THE TIED CARD OF 'promptbooklaw15.CoreTells'. -/
def coreTellsCard : Claim7 := { stood := { row := coreTellsRow, standIns := [], harness := (true, "9fe03f1df003bd601eee51a2b30aba0c2568986d3714bdcde3df25d944f76e8f"), looks := false }, kinds := [], alts := [], laidByText := true, laidKinds := [.data, .data], laidTests := true, laidLooks := .later }
def CoreTellsCardSaid : Prop := Claim7.holds Tryz.pinned (.plain (OpenSpec.ofChange coreTellsSpec)) coreTellsCard

/-- THE TIED CARD OF 'promptbooklaw15.CoreBounds'. -/
def coreBoundsCard : Claim7 := { stood := { row := coreBoundsRow, standIns := [], harness := (true, "9fe03f1df003bd601eee51a2b30aba0c2568986d3714bdcde3df25d944f76e8f"), looks := false }, kinds := [], alts := [], laidByText := true, laidKinds := [.data, .data], laidTests := true, laidLooks := .later }
def CoreBoundsCardSaid : Prop := Claim7.holds Tryz.pinned (.plain (OpenSpec.ofChange coreBoundsSpec)) coreBoundsCard

/-- THE TIED CARD OF 'promptbooklaw15.CoreNil'. -/
def coreNilCard : Claim7 := { stood := { row := coreNilRow, standIns := [], harness := (true, "9fe03f1df003bd601eee51a2b30aba0c2568986d3714bdcde3df25d944f76e8f"), looks := false }, kinds := [], alts := [], laidByText := true, laidKinds := [.data, .data], laidTests := true, laidLooks := .later }
def CoreNilCardSaid : Prop := Claim7.holds Tryz.pinned (.plain (OpenSpec.ofChange coreNilSpec)) coreNilCard

/-- THE SECOND FORM's CARD OF 'promptbooklaw15.CorePlays'. -/
def corePlaysUptoCard : Claim7 := { stood := { row := corePlaysUptoRow, standIns := [], harness := (true, "9fe03f1df003bd601eee51a2b30aba0c2568986d3714bdcde3df25d944f76e8f"), looks := false }, kinds := [], alts := [], laidByText := true, laidKinds := [.data, .data], laidTests := true, laidLooks := .later }
def CorePlaysUptoCardSaid : Prop := Claim7.holds Tryz.pinned (.plain (OpenSpec.upto corePlaysSpec)) corePlaysUptoCard

/-- THE SECOND FORM's CARD OF 'promptbooklaw15.CoreTells'. -/
def coreTellsUptoCard : Claim7 := { stood := { row := coreTellsUptoRow, standIns := [], harness := (true, "9fe03f1df003bd601eee51a2b30aba0c2568986d3714bdcde3df25d944f76e8f"), looks := false }, kinds := [], alts := [], laidByText := true, laidKinds := [.data, .data], laidTests := true, laidLooks := .later }
def CoreTellsUptoCardSaid : Prop := Claim7.holds Tryz.pinned (.plain (OpenSpec.upto coreTellsSpec)) coreTellsUptoCard

/-- THE SECOND FORM's CARD OF 'promptbooklaw15.CoreBounds'. -/
def coreBoundsUptoCard : Claim7 := { stood := { row := coreBoundsUptoRow, standIns := [], harness := (true, "9fe03f1df003bd601eee51a2b30aba0c2568986d3714bdcde3df25d944f76e8f"), looks := false }, kinds := [], alts := [], laidByText := true, laidKinds := [.data, .data], laidTests := true, laidLooks := .later }
def CoreBoundsUptoCardSaid : Prop := Claim7.holds Tryz.pinned (.plain (OpenSpec.upto coreBoundsSpec)) coreBoundsUptoCard

/-- THE SECOND FORM's CARD OF 'promptbooklaw15.CoreNil'. -/
def coreNilUptoCard : Claim7 := { stood := { row := coreNilUptoRow, standIns := [], harness := (true, "9fe03f1df003bd601eee51a2b30aba0c2568986d3714bdcde3df25d944f76e8f"), looks := false }, kinds := [], alts := [], laidByText := true, laidKinds := [.data, .data], laidTests := true, laidLooks := .later }
def CoreNilUptoCardSaid : Prop := Claim7.holds Tryz.pinned (.plain (OpenSpec.upto coreNilSpec)) coreNilUptoCard
end Rows
end Go.Proofs.YtfclnhmijjlhdaaGreatDoor
