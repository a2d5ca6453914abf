/-
  NARROWER THAN 'FOR EVERY INPUT', by the rows' own cells (each row's printed sentence says how): GameStays: laid · GameParts: laid.
  DERIVED. THE GIVEN ROWS OF THIS SEAT. 2 by the template 'for every input the law returns true; each argument reads behind the call as it read before'; 0 by the template 'total and deterministic' (their statements: YtoogcbniphoaoaaDoorTotals.lean).
  GIVEN WITH THE SEED: the statements are not yours to turn. If you find one false, say at which input.
  Laid BY PROGRAM, IN A SANDBOX (cutbox-rows.mjs): the forced cells as the released guide's own fill.sh prints them over the translation 846b01fe6884a2b0… (all of the seat's roots in one cut). By AI agents, Wed Nov 11 2026. No macro, syntax, notation, axiom, sorry.
-/
import Derived.Test.YtoogcbniphoaoaaDoorChecked
import GoSem.Claim
import GoSem.ClaimJoined
import GoSem.ClaimMapViews
import Derived.JoinedTies
import Derived.KernelRfl
namespace Go.Proofs.YtoogcbniphoaoaaDoor
/- THE CELL 'sum', in the pinned program and in every row, IS THE sha256 OF THE DUMP (.gsa) THAT YtoogcbniphoaoaaDoorProg.lean LOADS. Nothing in Lean hashes anything: it is a label: what it is worth is what the hold of that sum in a sandbox is worth. -/
noncomputable def Tryd.pinned : Pinned := { name := "ytoogcbniphoaoaadoor", sum := "846b01fe6884a2b094238edea588462b9c2eff6024a7111d6214aab34f20b2c6", checked := Tryd.checked }
namespace Rows
def none {H : Type} : Left H := { results := [], args := [] }

/- WHAT THE LISTED PACKAGE-LEVEL VARIABLES READ AS WHEN THE CALL BEGINS. Each datum BY PROGRAM (the guide's laid-datum.mjs) off the statement by which the dump's own 'gosem.cut.vars' lays the variable. In a bare row this is a premise. The card (YtoogcbniphoaoaaDoorCards.lean) ties it to the program's text. -/
def laid_promptbook_game_corners {H : Type} : DataW H := .agg [.agg [.lit (.int .i32 (-2621440)), .lit (.int .i32 (-2621440))], .agg [.lit (.int .i32 2621440), .lit (.int .i32 (-2621440))], .agg [.lit (.int .i32 (-2621440)), .lit (.int .i32 2621440)], .agg [.lit (.int .i32 2621440), .lit (.int .i32 2621440)]]
def laid_promptbook_game_sounds {H : Type} : DataW H := .agg [.agg [.agg [.lit (.int .i64 0), .lit (.int .i64 0), .lit (.int .i64 0), .lit (.int .i64 0)], .lit (.int .i64 0), .lit (.int .i64 0), .lit (.int .i64 0), .lit (.int .i64 0), .lit (.int .i64 0)], .agg [.agg [.lit (.int .i64 0), .lit (.int .i64 0), .lit (.int .i64 0), .lit (.int .i64 0)], .lit (.int .i64 1), .lit (.int .i64 16384), .lit (.int .i64 0), .lit (.int .i64 5), .lit (.int .i64 0)], .agg [.agg [.lit (.int .i64 0), .lit (.int .i64 0), .lit (.int .i64 0), .lit (.int .i64 0)], .lit (.int .i64 2), .lit (.int .i64 32768), .lit (.int .i64 0), .lit (.int .i64 8), .lit (.int .i64 0)], .agg [.agg [.lit (.int .i64 0), .lit (.int .i64 0), .lit (.int .i64 0), .lit (.int .i64 0)], .lit (.int .i64 3), .lit (.int .i64 8192), .lit (.int .i64 0), .lit (.int .i64 3), .lit (.int .i64 0)], .agg [.agg [.lit (.int .i64 0), .lit (.int .i64 0), .lit (.int .i64 0), .lit (.int .i64 0)], .lit (.int .i64 4), .lit (.int .i64 16384), .lit (.int .i64 0), .lit (.int .i64 6), .lit (.int .i64 0)], .agg [.agg [.lit (.int .i64 0), .lit (.int .i64 0), .lit (.int .i64 0), .lit (.int .i64 0)], .lit (.int .i64 5), .lit (.int .i64 32768), .lit (.int .i64 0), .lit (.int .i64 10), .lit (.int .i64 0)], .agg [.agg [.lit (.int .i64 0), .lit (.int .i64 0), .lit (.int .i64 0), .lit (.int .i64 0)], .lit (.int .i64 6), .lit (.int .i64 16384), .lit (.int .i64 0), .lit (.int .i64 9), .lit (.int .i64 0)], .agg [.agg [.lit (.int .i64 0), .lit (.int .i64 0), .lit (.int .i64 0), .lit (.int .i64 0)], .lit (.int .i64 7), .lit (.int .i64 32768), .lit (.int .i64 0), .lit (.int .i64 12), .lit (.int .i64 0)], .agg [.agg [.lit (.int .i64 0), .lit (.int .i64 0), .lit (.int .i64 0), .lit (.int .i64 0)], .lit (.int .i64 8), .lit (.int .i64 4096), .lit (.int .i64 0), .lit (.int .i64 1), .lit (.int .i64 8)], .agg [.agg [.lit (.int .i64 0), .lit (.int .i64 0), .lit (.int .i64 0), .lit (.int .i64 0)], .lit (.int .i64 9), .lit (.int .i64 8192), .lit (.int .i64 0), .lit (.int .i64 4), .lit (.int .i64 0)]]

/-- 'promptbooklaw12.GameStays': WHATEVER THE INPUT: true; the input reads as it did. -/
def gameStaysSpec : ChangeSpec := { name := "gameStays", fn := fun _ => fun
  | [d1, d2] => { results := [.lit (.bool true)], args := [d1, d2] }
  | _ => none }
def gameStaysRow : OpenClaim := { program := "ytoogcbniphoaoaadoor", sum := "846b01fe6884a2b094238edea588462b9c2eff6024a7111d6214aab34f20b2c6", func := "promptbook/promptbooklaw12.GameStays", spec := "gameStays", inPlace := ["slices.overlaps[promptbook/api.Event]"], unfollowed := true, recurses := true, named := ["promptbook/game.corners", "promptbook/game.sounds"], apart := false, laid := [("promptbook/game.corners", laid_promptbook_game_corners), ("promptbook/game.sounds", laid_promptbook_game_sounds)] }
def GameStaysSaid : Prop := gameStaysRow.holds Tryd.pinned (OpenSpec.ofChange gameStaysSpec)

/-- ITS FALSE NEIGHBOUR: 'it returns false'. Refute it at one input. -/
def gameStaysWrong : ChangeSpec := { name := "gameStays", fn := fun _ => fun
  | [d1, d2] => { results := [.lit (.bool false)], args := [d1, d2] }
  | _ => none }
def GameStaysWrongFalsely : Prop := gameStaysRow.holds Tryd.pinned (OpenSpec.ofChange gameStaysWrong)

/-- 'promptbooklaw12.GameParts': WHATEVER THE INPUT: true; the input reads as it did. -/
def gamePartsSpec : ChangeSpec := { name := "gameParts", fn := fun _ => fun
  | [d1, d2, d3] => { results := [.lit (.bool true)], args := [d1, d2, d3] }
  | _ => none }
def gamePartsRow : OpenClaim := { program := "ytoogcbniphoaoaadoor", sum := "846b01fe6884a2b094238edea588462b9c2eff6024a7111d6214aab34f20b2c6", func := "promptbook/promptbooklaw12.GameParts", spec := "gameParts", inPlace := ["slices.overlaps[promptbook/api.Event]"], unfollowed := true, recurses := true, named := ["promptbook/game.corners", "promptbook/game.sounds"], apart := false, laid := [("promptbook/game.corners", laid_promptbook_game_corners), ("promptbook/game.sounds", laid_promptbook_game_sounds)] }
def GamePartsSaid : Prop := gamePartsRow.holds Tryd.pinned (OpenSpec.ofChange gamePartsSpec)

/-- ITS FALSE NEIGHBOUR: 'it returns false'. Refute it at one input. -/
def gamePartsWrong : ChangeSpec := { name := "gameParts", fn := fun _ => fun
  | [d1, d2, d3] => { results := [.lit (.bool false)], args := [d1, d2, d3] }
  | _ => none }
def GamePartsWrongFalsely : Prop := gamePartsRow.holds Tryd.pinned (OpenSpec.ofChange gamePartsWrong)

/- THE SECOND FORM. 'bulk': how many values and letters a reading holds, each counted each time it is reached (what is shared counts as often as it is met; a slice's spare places count too). A statement '..UptoSaid' is the law's where the arguments, and the package variables that the reading takes, are together of bulk at most 1048576: NARROWER than '..Said'. Prove '..Said' where nothing that the law and all that it calls make is longer than what came in: it says more and counts as full. Else prove '..UptoSaid'. A law counts once. -/
mutual
def uptoBulk {H : Type} : DataW H → Nat
  | .lit (.string bytes) => bytes.length + 1
  | .lit _ => 1
  | .nil => 1
  | .ptr d => uptoBulk d + 1
  | .slice elems spare => uptoBulkAll elems + uptoBulkAll spare + 1
  | .agg parts => uptoBulkAll parts + 1
  | .iface _ d => uptoBulk d + 1
  | .map entries => uptoBulkEntries entries + 1
  | .held _ => 1
def uptoBulkAll {H : Type} : List (DataW H) → Nat
  | [] => 0
  | d :: r => uptoBulk d + uptoBulkAll r
def uptoBulkEntries {H : Type} : List (Lit × DataW H) → Nat
  | [] => 0
  | x :: r => uptoBulkEntry x + uptoBulkEntries r
def uptoBulkEntry {H : Type} : Lit × DataW H → Nat
  | (.string bytes, d) => bytes.length + uptoBulk d + 1
  | (_, d) => uptoBulk d + 1
 end
def uptoSmall : (H : Type) → List (DataW H) → Bool := fun _ ds => decide (uptoBulkAll ds ≤ 1048576)
def OpenSpec.upto (s : _root_.Go.ChangeSpec) : _root_.Go.OpenSpec := { _root_.Go.OpenSpec.ofChange s with cond := some uptoSmall }

/-- 'promptbooklaw12.GameStays', WHERE WHAT IT READS IS OF BULK AT MOST 1048576: true; the input reads as it did. -/
def gameStaysUptoRow : OpenClaim := { program := "ytoogcbniphoaoaadoor", sum := "846b01fe6884a2b094238edea588462b9c2eff6024a7111d6214aab34f20b2c6", func := "promptbook/promptbooklaw12.GameStays", spec := "gameStays", inPlace := ["slices.overlaps[promptbook/api.Event]"], unfollowed := true, recurses := true, named := ["promptbook/game.corners", "promptbook/game.sounds"], apart := false, laid := [("promptbook/game.corners", laid_promptbook_game_corners), ("promptbook/game.sounds", laid_promptbook_game_sounds)], narrowed := true }
def GameStaysUptoSaid : Prop := gameStaysUptoRow.holds Tryd.pinned (OpenSpec.upto gameStaysSpec)

/-- 'promptbooklaw12.GameParts', WHERE WHAT IT READS IS OF BULK AT MOST 1048576: true; the input reads as it did. -/
def gamePartsUptoRow : OpenClaim := { program := "ytoogcbniphoaoaadoor", sum := "846b01fe6884a2b094238edea588462b9c2eff6024a7111d6214aab34f20b2c6", func := "promptbook/promptbooklaw12.GameParts", spec := "gameParts", inPlace := ["slices.overlaps[promptbook/api.Event]"], unfollowed := true, recurses := true, named := ["promptbook/game.corners", "promptbook/game.sounds"], apart := false, laid := [("promptbook/game.corners", laid_promptbook_game_corners), ("promptbook/game.sounds", laid_promptbook_game_sounds)], narrowed := true }
def GamePartsUptoSaid : Prop := gamePartsUptoRow.holds Tryd.pinned (OpenSpec.upto gamePartsSpec)

end Rows
end Go.Proofs.YtoogcbniphoaoaaDoor
