/-
  NARROWER THAN 'FOR EVERY INPUT', by the rows' own cells (each row's printed sentence says how): CorePlays: laid · CoreTells: laid · CoreBounds: laid · CoreNil: laid.
  DERIVED. THE GIVEN ROWS OF THIS SEAT. 4 by the template 'for every input the law returns true; each argument reads behind the call as it read before'; 0 by the template 'total and deterministic' (their statements: YtfclnhmijjlhdaaGreatDoorTotals.lean).
  GIVEN WITH THE SEED: the statements are not yours to turn. If you find one false, say at which input.
  Laid BY PROGRAM, IN A SANDBOX (cutbox-rows.mjs): the forced cells as the released guide's own fill.sh prints them over the translation 242c14b966a18a42… (all of the seat's roots in one cut). By AI agents, Wed Nov 11 2026. No macro, syntax, notation, axiom, sorry.
-/
import Derived.Test.YtfclnhmijjlhdaaGreatDoorChecked
import GoSem.Claim
import GoSem.ClaimJoined
import GoSem.ClaimMapViews
import Derived.JoinedTies
import Derived.KernelRfl
namespace Go.Proofs.YtfclnhmijjlhdaaGreatDoor
/- THE CELL 'sum', in the pinned program and in every row, IS THE sha256 OF THE DUMP (.gsa) THAT YtfclnhmijjlhdaaGreatDoorProg.lean LOADS. Nothing in Lean hashes anything: it is a label: what it is worth is what the hold of that sum in a sandbox is worth. -/
noncomputable def Tryz.pinned : Pinned := { name := "ytfclnhmijjlhdaagreatdoor", sum := "242c14b966a18a427f29115990957e1dae9affa2d9ee8da804b70998cc7f6335", checked := Tryz.checked }
namespace Rows
def none {H : Type} : Left H := { results := [], args := [] }

/- WHAT THE LISTED PACKAGE-LEVEL VARIABLES READ AS WHEN THE CALL BEGINS. Each datum BY PROGRAM (the guide's laid-datum.mjs) off the statement by which the dump's own 'gosem.cut.vars' lays the variable. In a bare row this is a premise. The card (YtfclnhmijjlhdaaGreatDoorCards.lean) ties it to the program's text. -/
def laid_promptbook_game_corners {H : Type} : DataW H := .agg [.agg [.lit (.int .i32 (-2621440)), .lit (.int .i32 (-2621440))], .agg [.lit (.int .i32 2621440), .lit (.int .i32 (-2621440))], .agg [.lit (.int .i32 (-2621440)), .lit (.int .i32 2621440)], .agg [.lit (.int .i32 2621440), .lit (.int .i32 2621440)]]
def laid_promptbook_game_sounds {H : Type} : DataW H := .agg [.agg [.agg [.lit (.int .i64 0), .lit (.int .i64 0), .lit (.int .i64 0), .lit (.int .i64 0)], .lit (.int .i64 0), .lit (.int .i64 0), .lit (.int .i64 0), .lit (.int .i64 0), .lit (.int .i64 0)], .agg [.agg [.lit (.int .i64 0), .lit (.int .i64 0), .lit (.int .i64 0), .lit (.int .i64 0)], .lit (.int .i64 1), .lit (.int .i64 16384), .lit (.int .i64 0), .lit (.int .i64 5), .lit (.int .i64 0)], .agg [.agg [.lit (.int .i64 0), .lit (.int .i64 0), .lit (.int .i64 0), .lit (.int .i64 0)], .lit (.int .i64 2), .lit (.int .i64 32768), .lit (.int .i64 0), .lit (.int .i64 8), .lit (.int .i64 0)], .agg [.agg [.lit (.int .i64 0), .lit (.int .i64 0), .lit (.int .i64 0), .lit (.int .i64 0)], .lit (.int .i64 3), .lit (.int .i64 8192), .lit (.int .i64 0), .lit (.int .i64 3), .lit (.int .i64 0)], .agg [.agg [.lit (.int .i64 0), .lit (.int .i64 0), .lit (.int .i64 0), .lit (.int .i64 0)], .lit (.int .i64 4), .lit (.int .i64 16384), .lit (.int .i64 0), .lit (.int .i64 6), .lit (.int .i64 0)], .agg [.agg [.lit (.int .i64 0), .lit (.int .i64 0), .lit (.int .i64 0), .lit (.int .i64 0)], .lit (.int .i64 5), .lit (.int .i64 32768), .lit (.int .i64 0), .lit (.int .i64 10), .lit (.int .i64 0)], .agg [.agg [.lit (.int .i64 0), .lit (.int .i64 0), .lit (.int .i64 0), .lit (.int .i64 0)], .lit (.int .i64 6), .lit (.int .i64 16384), .lit (.int .i64 0), .lit (.int .i64 9), .lit (.int .i64 0)], .agg [.agg [.lit (.int .i64 0), .lit (.int .i64 0), .lit (.int .i64 0), .lit (.int .i64 0)], .lit (.int .i64 7), .lit (.int .i64 32768), .lit (.int .i64 0), .lit (.int .i64 12), .lit (.int .i64 0)], .agg [.agg [.lit (.int .i64 0), .lit (.int .i64 0), .lit (.int .i64 0), .lit (.int .i64 0)], .lit (.int .i64 8), .lit (.int .i64 4096), .lit (.int .i64 0), .lit (.int .i64 1), .lit (.int .i64 8)], .agg [.agg [.lit (.int .i64 0), .lit (.int .i64 0), .lit (.int .i64 0), .lit (.int .i64 0)], .lit (.int .i64 9), .lit (.int .i64 8192), .lit (.int .i64 0), .lit (.int .i64 4), .lit (.int .i64 0)]]

/-- 'promptbooklaw15.CorePlays': WHATEVER THE INPUT: true; the input reads as it did. -/
def corePlaysSpec : ChangeSpec := { name := "corePlays", fn := fun _ => fun
  | [d1, d2, d3] => { results := [.lit (.bool true)], args := [d1, d2, d3] }
  | _ => none }
def corePlaysRow : OpenClaim := { program := "ytfclnhmijjlhdaagreatdoor", sum := "242c14b966a18a427f29115990957e1dae9affa2d9ee8da804b70998cc7f6335", func := "promptbook/promptbooklaw15.CorePlays", spec := "corePlays", inPlace := ["slices.overlaps[promptbook/ring.framed[promptbook/api.State]]", "slices.overlaps[promptbook/ring.framed[uint8]]", "slices.overlaps[promptbook/api.Event]"], unfollowed := true, recurses := true, named := ["promptbook/game.corners", "promptbook/game.sounds"], apart := false, laid := [("promptbook/game.corners", laid_promptbook_game_corners), ("promptbook/game.sounds", laid_promptbook_game_sounds)] }
def CorePlaysSaid : Prop := corePlaysRow.holds Tryz.pinned (OpenSpec.ofChange corePlaysSpec)

/-- ITS FALSE NEIGHBOUR: 'it returns false'. Refute it at one input. -/
def corePlaysWrong : ChangeSpec := { name := "corePlays", fn := fun _ => fun
  | [d1, d2, d3] => { results := [.lit (.bool false)], args := [d1, d2, d3] }
  | _ => none }
def CorePlaysWrongFalsely : Prop := corePlaysRow.holds Tryz.pinned (OpenSpec.ofChange corePlaysWrong)

/-- 'promptbooklaw15.CoreTells': WHATEVER THE INPUT: true; the input reads as it did. -/
def coreTellsSpec : ChangeSpec := { name := "coreTells", fn := fun _ => fun
  | [d1, d2] => { results := [.lit (.bool true)], args := [d1, d2] }
  | _ => none }
def coreTellsRow : OpenClaim := { program := "ytfclnhmijjlhdaagreatdoor", sum := "242c14b966a18a427f29115990957e1dae9affa2d9ee8da804b70998cc7f6335", func := "promptbook/promptbooklaw15.CoreTells", spec := "coreTells", inPlace := ["slices.overlaps[promptbook/ring.framed[promptbook/api.State]]", "slices.overlaps[promptbook/ring.framed[uint8]]", "slices.overlaps[promptbook/api.Event]"], unfollowed := true, recurses := true, named := ["promptbook/game.corners", "promptbook/game.sounds"], apart := false, laid := [("promptbook/game.corners", laid_promptbook_game_corners), ("promptbook/game.sounds", laid_promptbook_game_sounds)] }
def CoreTellsSaid : Prop := coreTellsRow.holds Tryz.pinned (OpenSpec.ofChange coreTellsSpec)

/-- ITS FALSE NEIGHBOUR: 'it returns false'. Refute it at one input. -/
def coreTellsWrong : ChangeSpec := { name := "coreTells", fn := fun _ => fun
  | [d1, d2] => { results := [.lit (.bool false)], args := [d1, d2] }
  | _ => none }
def CoreTellsWrongFalsely : Prop := coreTellsRow.holds Tryz.pinned (OpenSpec.ofChange coreTellsWrong)

/-- 'promptbooklaw15.CoreBounds': WHATEVER THE INPUT: true; the input reads as it did. -/
def coreBoundsSpec : ChangeSpec := { name := "coreBounds", fn := fun _ => fun
  | [d1, d2] => { results := [.lit (.bool true)], args := [d1, d2] }
  | _ => none }
def coreBoundsRow : OpenClaim := { program := "ytfclnhmijjlhdaagreatdoor", sum := "242c14b966a18a427f29115990957e1dae9affa2d9ee8da804b70998cc7f6335", func := "promptbook/promptbooklaw15.CoreBounds", spec := "coreBounds", inPlace := ["slices.overlaps[promptbook/ring.framed[promptbook/api.State]]", "slices.overlaps[promptbook/ring.framed[uint8]]", "slices.overlaps[promptbook/api.Event]"], unfollowed := true, recurses := true, named := ["promptbook/game.corners", "promptbook/game.sounds"], apart := false, laid := [("promptbook/game.corners", laid_promptbook_game_corners), ("promptbook/game.sounds", laid_promptbook_game_sounds)] }
def CoreBoundsSaid : Prop := coreBoundsRow.holds Tryz.pinned (OpenSpec.ofChange coreBoundsSpec)

/-- ITS FALSE NEIGHBOUR: 'it returns false'. Refute it at one input. -/
def coreBoundsWrong : ChangeSpec := { name := "coreBounds", fn := fun _ => fun
  | [d1, d2] => { results := [.lit (.bool false)], args := [d1, d2] }
  | _ => none }
def CoreBoundsWrongFalsely : Prop := coreBoundsRow.holds Tryz.pinned (OpenSpec.ofChange coreBoundsWrong)

/-- 'promptbooklaw15.CoreNil': WHATEVER THE INPUT: true; the input reads as it did. -/
def coreNilSpec : ChangeSpec := { name := "coreNil", fn := fun _ => fun
  | [d1, d2] => { results := [.lit (.bool true)], args := [d1, d2] }
  | _ => none }
def coreNilRow : OpenClaim := { program := "ytfclnhmijjlhdaagreatdoor", sum := "242c14b966a18a427f29115990957e1dae9affa2d9ee8da804b70998cc7f6335", func := "promptbook/promptbooklaw15.CoreNil", spec := "coreNil", inPlace := ["slices.overlaps[promptbook/ring.framed[promptbook/api.State]]", "slices.overlaps[promptbook/ring.framed[uint8]]", "slices.overlaps[promptbook/api.Event]"], unfollowed := true, recurses := true, named := ["promptbook/game.corners", "promptbook/game.sounds"], apart := false, laid := [("promptbook/game.corners", laid_promptbook_game_corners), ("promptbook/game.sounds", laid_promptbook_game_sounds)] }
def CoreNilSaid : Prop := coreNilRow.holds Tryz.pinned (OpenSpec.ofChange coreNilSpec)

/-- ITS FALSE NEIGHBOUR: 'it returns false'. Refute it at one input. -/
def coreNilWrong : ChangeSpec := { name := "coreNil", fn := fun _ => fun
  | [d1, d2] => { results := [.lit (.bool false)], args := [d1, d2] }
  | _ => none }
def CoreNilWrongFalsely : Prop := coreNilRow.holds Tryz.pinned (OpenSpec.ofChange coreNilWrong)

/- THE SECOND FORM. 'bulk': how many values and letters a reading holds, each counted each time it is reached (what is shared counts as often as it is met; a slice's spare places count too). A statement '..UptoSaid' is the law's where the arguments, and the package variables that the reading takes, are together of bulk at most 1048576: NARROWER than '..Said'. Prove '..Said' where nothing that the law and all that it calls make is longer than what came in: it says more and counts as full. Else prove '..UptoSaid'. A law counts once. -/
mutual
def uptoBulk {H : Type} : DataW H → Nat
  | .lit (.string bytes) => bytes.length + 1
  | .lit _ => 1
  | .nil => 1
  | .ptr d => uptoBulk d + 1
  | .slice elems spare => uptoBulkAll elems + uptoBulkAll spare + 1
  | .agg parts => uptoBulkAll parts + 1
  | .iface _ d => uptoBulk d + 1
  | .map entries => uptoBulkEntries entries + 1
  | .held _ => 1
def uptoBulkAll {H : Type} : List (DataW H) → Nat
  | [] => 0
  | d :: r => uptoBulk d + uptoBulkAll r
def uptoBulkEntries {H : Type} : List (Lit × DataW H) → Nat
  | [] => 0
  | x :: r => uptoBulkEntry x + uptoBulkEntries r
def uptoBulkEntry {H : Type} : Lit × DataW H → Nat
  | (.string bytes, d) => bytes.length + uptoBulk d + 1
  | (_, d) => uptoBulk d + 1
 end
def uptoSmall : (H : Type) → List (DataW H) → Bool := fun _ ds => decide (uptoBulkAll ds ≤ 1048576)
def OpenSpec.upto (s : _root_.Go.ChangeSpec) : _root_.Go.OpenSpec := { _root_.Go.OpenSpec.ofChange s with cond := some uptoSmall }

/-- 'promptbooklaw15.CorePlays', WHERE WHAT IT READS IS OF BULK AT MOST 1048576: true; the input reads as it did. -/
def corePlaysUptoRow : OpenClaim := { program := "ytfclnhmijjlhdaagreatdoor", sum := "242c14b966a18a427f29115990957e1dae9affa2d9ee8da804b70998cc7f6335", func := "promptbook/promptbooklaw15.CorePlays", spec := "corePlays", inPlace := ["slices.overlaps[promptbook/ring.framed[promptbook/api.State]]", "slices.overlaps[promptbook/ring.framed[uint8]]", "slices.overlaps[promptbook/api.Event]"], unfollowed := true, recurses := true, named := ["promptbook/game.corners", "promptbook/game.sounds"], apart := false, laid := [("promptbook/game.corners", laid_promptbook_game_corners), ("promptbook/game.sounds", laid_promptbook_game_sounds)], narrowed := true }
def CorePlaysUptoSaid : Prop := corePlaysUptoRow.holds Tryz.pinned (OpenSpec.upto corePlaysSpec)

/-- 'promptbooklaw15.CoreTells', WHERE WHAT IT READS IS OF BULK AT MOST 1048576: true; the input reads as it did. -/
def coreTellsUptoRow : OpenClaim := { program := "ytfclnhmijjlhdaagreatdoor", sum := "242c14b966a18a427f29115990957e1dae9affa2d9ee8da804b70998cc7f6335", func := "promptbook/promptbooklaw15.CoreTells", spec := "coreTells", inPlace := ["slices.overlaps[promptbook/ring.framed[promptbook/api.State]]", "slices.overlaps[promptbook/ring.framed[uint8]]", "slices.overlaps[promptbook/api.Event]"], unfollowed := true, recurses := true, named := ["promptbook/game.corners", "promptbook/game.sounds"], apart := false, laid := [("promptbook/game.corners", laid_promptbook_game_corners), ("promptbook/game.sounds", laid_promptbook_game_sounds)], narrowed := true }
def CoreTellsUptoSaid : Prop := coreTellsUptoRow.holds Tryz.pinned (OpenSpec.upto coreTellsSpec)

/-- 'promptbooklaw15.CoreBounds', WHERE WHAT IT READS IS OF BULK AT MOST 1048576: true; the input reads as it did. -/
def coreBoundsUptoRow : OpenClaim := { program := "ytfclnhmijjlhdaagreatdoor", sum := "242c14b966a18a427f29115990957e1dae9affa2d9ee8da804b70998cc7f6335", func := "promptbook/promptbooklaw15.CoreBounds", spec := "coreBounds", inPlace := ["slices.overlaps[promptbook/ring.framed[promptbook/api.State]]", "slices.overlaps[promptbook/ring.framed[uint8]]", "slices.overlaps[promptbook/api.Event]"], unfollowed := true, recurses := true, named := ["promptbook/game.corners", "promptbook/game.sounds"], apart := false, laid := [("promptbook/game.corners", laid_promptbook_game_corners), ("promptbook/game.sounds", laid_promptbook_game_sounds)], narrowed := true }
def CoreBoundsUptoSaid : Prop := coreBoundsUptoRow.holds Tryz.pinned (OpenSpec.upto coreBoundsSpec)

/-- 'promptbooklaw15.CoreNil', WHERE WHAT IT READS IS OF BULK AT MOST 1048576: true; the input reads as it did. -/
def coreNilUptoRow : OpenClaim := { program := "ytfclnhmijjlhdaagreatdoor", sum := "242c14b966a18a427f29115990957e1dae9affa2d9ee8da804b70998cc7f6335", func := "promptbook/promptbooklaw15.CoreNil", spec := "coreNil", inPlace := ["slices.overlaps[promptbook/ring.framed[promptbook/api.State]]", "slices.overlaps[promptbook/ring.framed[uint8]]", "slices.overlaps[promptbook/api.Event]"], unfollowed := true, recurses := true, named := ["promptbook/game.corners", "promptbook/game.sounds"], apart := false, laid := [("promptbook/game.corners", laid_promptbook_game_corners), ("promptbook/game.sounds", laid_promptbook_game_sounds)], narrowed := true }
def CoreNilUptoSaid : Prop := coreNilUptoRow.holds Tryz.pinned (OpenSpec.upto coreNilSpec)

end Rows
end Go.Proofs.YtfclnhmijjlhdaaGreatDoor
