/-
  DERIVED. GIVEN WITH THE SEED: THE CARDS: each row of YtigjflacinlafaaGreatDoorRows.lean that lists a variable, with what it lists TIED to the program's text (the seventh form; the later family's looks); each row that meets fmt, with fmt's text TOLD by the authors' own Lean function (tested against real Go, not proved from fmt's source: count such statements apart). THE CARD IS WHAT COUNTS. Prove the row's statement (the work); the ties are given (YtigjflacinlafaaGreatDoorTie.lean); close each card by the builder's one call (the guide's Derived/Test/ToyasCard.lean, 'card_holds'). Laid BY PROGRAM, IN A SANDBOX (cutbox-door.mjs). By AI agents, Wed Nov 11 2026. No macro, syntax, notation, axiom, sorry.
-/
import Derived.Test.YtigjflacinlafaaGreatDoorRows
import GoSem.ClaimSeven
namespace Go.Proofs.YtigjflacinlafaaGreatDoor
namespace Rows

/-- THE TIED CARD OF 'promptbooklaw12.GameRuns'. -/
def gameRunsCard : Claim7 := { stood := { row := gameRunsRow, standIns := [], harness := (true, "7eb4f7e23b905c5fb3b926b996c891687117ce5f477cc6c1b4512fbc00318fd1"), looks := false }, kinds := [], alts := [], laidByText := true, laidKinds := [.data, .data], laidTests := true, laidLooks := .later }
def GameRunsCardSaid : Prop := Claim7.holds Tryz.pinned (.plain (OpenSpec.ofChange gameRunsSpec)) gameRunsCard

/-- THE TIED CARD OF 'promptbooklaw12.GameSteps'. -/
def gameStepsCard : Claim7 := { stood := { row := gameStepsRow, standIns := [], harness := (true, "7eb4f7e23b905c5fb3b926b996c891687117ce5f477cc6c1b4512fbc00318fd1"), looks := false }, kinds := [], alts := [], laidByText := true, laidKinds := [.data, .data], laidTests := true, laidLooks := .later }
def GameStepsCardSaid : Prop := Claim7.holds Tryz.pinned (.plain (OpenSpec.ofChange gameStepsSpec)) gameStepsCard

/-- THE SECOND FORM's CARD OF 'promptbooklaw12.GameRuns'. -/
def gameRunsUptoCard : Claim7 := { stood := { row := gameRunsUptoRow, standIns := [], harness := (true, "7eb4f7e23b905c5fb3b926b996c891687117ce5f477cc6c1b4512fbc00318fd1"), looks := false }, kinds := [], alts := [], laidByText := true, laidKinds := [.data, .data], laidTests := true, laidLooks := .later }
def GameRunsUptoCardSaid : Prop := Claim7.holds Tryz.pinned (.plain (OpenSpec.upto gameRunsSpec)) gameRunsUptoCard

/-- THE SECOND FORM's CARD OF 'promptbooklaw12.GameSteps'. -/
def gameStepsUptoCard : Claim7 := { stood := { row := gameStepsUptoRow, standIns := [], harness := (true, "7eb4f7e23b905c5fb3b926b996c891687117ce5f477cc6c1b4512fbc00318fd1"), looks := false }, kinds := [], alts := [], laidByText := true, laidKinds := [.data, .data], laidTests := true, laidLooks := .later }
def GameStepsUptoCardSaid : Prop := Claim7.holds Tryz.pinned (.plain (OpenSpec.upto gameStepsSpec)) gameStepsUptoCard
end Rows
end Go.Proofs.YtigjflacinlafaaGreatDoor
