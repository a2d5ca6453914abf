/-
  No cell of these rows narrows 'for every input' (looked for: loops, veiled, ifaces, maps, wideKeys, modest, calm, conditions, laid).
  DERIVED. THE GIVEN ROWS OF THIS SEAT. 4 by the template 'for every input the law returns true; each argument reads behind the call as it read before'; 0 by the template 'total and deterministic' (their statements: YtphbfllhlhninaaTotals.lean).
  GIVEN WITH THE SEED: the statements are not yours to turn. If you find one false, say at which input.
  Laid BY PROGRAM, IN A SANDBOX (cutbox-rows.mjs): the forced cells as the released guide's own fill.sh prints them over the translation 3c6f48ab3f0c5aec… (all of the seat's roots in one cut). By AI agents, Wed Nov 11 2026. No macro, syntax, notation, axiom, sorry.
-/
import Derived.Test.YtphbfllhlhninaaChecked
import GoSem.Claim
import GoSem.ClaimJoined
import GoSem.ClaimMapViews
import Derived.JoinedTies
import Derived.KernelRfl
namespace Go.Proofs.Ytphbfllhlhninaa
/- THE CELL 'sum', in the pinned program and in every row, IS THE sha256 OF THE DUMP (.gsa) THAT YtphbfllhlhninaaProg.lean LOADS. Nothing in Lean hashes anything: it is a label: what it is worth is what the hold of that sum in a sandbox is worth. -/
noncomputable def Try.pinned : Pinned := { name := "ytphbfllhlhninaa", sum := "3c6f48ab3f0c5aec6899281e19bdae21eda3de5d3d63f8c014203cf3d59b2506", checked := Try.checked }
namespace Rows
def none {H : Type} : Left H := { results := [], args := [] }

/-- 'promptbooklaw10.ShapeSums': WHATEVER THE INPUT: true; the input reads as it did. -/
def shapeSumsSpec : ChangeSpec := { name := "shapeSums", fn := fun _ => fun
  | [d1, d2, d3, d4] => { results := [.lit (.bool true)], args := [d1, d2, d3, d4] }
  | _ => none }
def shapeSumsRow : OpenClaim := { program := "ytphbfllhlhninaa", sum := "3c6f48ab3f0c5aec6899281e19bdae21eda3de5d3d63f8c014203cf3d59b2506", func := "promptbook/promptbooklaw10.ShapeSums", spec := "shapeSums", apart := false }
def ShapeSumsSaid : Prop := shapeSumsRow.holds Try.pinned (OpenSpec.ofChange shapeSumsSpec)

/-- ITS FALSE NEIGHBOUR: 'it returns false'. Refute it at one input. -/
def shapeSumsWrong : ChangeSpec := { name := "shapeSums", fn := fun _ => fun
  | [d1, d2, d3, d4] => { results := [.lit (.bool false)], args := [d1, d2, d3, d4] }
  | _ => none }
def ShapeSumsWrongFalsely : Prop := shapeSumsRow.holds Try.pinned (OpenSpec.ofChange shapeSumsWrong)

/-- 'promptbooklaw10.ShapeMoves': WHATEVER THE INPUT: true; the input reads as it did. -/
def shapeMovesSpec : ChangeSpec := { name := "shapeMoves", fn := fun _ => fun
  | [d1, d2, d3] => { results := [.lit (.bool true)], args := [d1, d2, d3] }
  | _ => none }
def shapeMovesRow : OpenClaim := { program := "ytphbfllhlhninaa", sum := "3c6f48ab3f0c5aec6899281e19bdae21eda3de5d3d63f8c014203cf3d59b2506", func := "promptbook/promptbooklaw10.ShapeMoves", spec := "shapeMoves", apart := false }
def ShapeMovesSaid : Prop := shapeMovesRow.holds Try.pinned (OpenSpec.ofChange shapeMovesSpec)

/-- ITS FALSE NEIGHBOUR: 'it returns false'. Refute it at one input. -/
def shapeMovesWrong : ChangeSpec := { name := "shapeMoves", fn := fun _ => fun
  | [d1, d2, d3] => { results := [.lit (.bool false)], args := [d1, d2, d3] }
  | _ => none }
def ShapeMovesWrongFalsely : Prop := shapeMovesRow.holds Try.pinned (OpenSpec.ofChange shapeMovesWrong)

/-- 'promptbooklaw10.ShapeTouches': WHATEVER THE INPUT: true; the input reads as it did. -/
def shapeTouchesSpec : ChangeSpec := { name := "shapeTouches", fn := fun _ => fun
  | [d1, d2, d3, d4, d5] => { results := [.lit (.bool true)], args := [d1, d2, d3, d4, d5] }
  | _ => none }
def shapeTouchesRow : OpenClaim := { program := "ytphbfllhlhninaa", sum := "3c6f48ab3f0c5aec6899281e19bdae21eda3de5d3d63f8c014203cf3d59b2506", func := "promptbook/promptbooklaw10.ShapeTouches", spec := "shapeTouches", apart := false }
def ShapeTouchesSaid : Prop := shapeTouchesRow.holds Try.pinned (OpenSpec.ofChange shapeTouchesSpec)

/-- ITS FALSE NEIGHBOUR: 'it returns false'. Refute it at one input. -/
def shapeTouchesWrong : ChangeSpec := { name := "shapeTouches", fn := fun _ => fun
  | [d1, d2, d3, d4, d5] => { results := [.lit (.bool false)], args := [d1, d2, d3, d4, d5] }
  | _ => none }
def ShapeTouchesWrongFalsely : Prop := shapeTouchesRow.holds Try.pinned (OpenSpec.ofChange shapeTouchesWrong)

/-- 'promptbooklaw10.ShapeNear': WHATEVER THE INPUT: true; the input reads as it did. -/
def shapeNearSpec : ChangeSpec := { name := "shapeNear", fn := fun _ => fun
  | [d1, d2, d3, d4, d5] => { results := [.lit (.bool true)], args := [d1, d2, d3, d4, d5] }
  | _ => none }
def shapeNearRow : OpenClaim := { program := "ytphbfllhlhninaa", sum := "3c6f48ab3f0c5aec6899281e19bdae21eda3de5d3d63f8c014203cf3d59b2506", func := "promptbook/promptbooklaw10.ShapeNear", spec := "shapeNear", apart := false }
def ShapeNearSaid : Prop := shapeNearRow.holds Try.pinned (OpenSpec.ofChange shapeNearSpec)

/-- ITS FALSE NEIGHBOUR: 'it returns false'. Refute it at one input. -/
def shapeNearWrong : ChangeSpec := { name := "shapeNear", fn := fun _ => fun
  | [d1, d2, d3, d4, d5] => { results := [.lit (.bool false)], args := [d1, d2, d3, d4, d5] }
  | _ => none }
def ShapeNearWrongFalsely : Prop := shapeNearRow.holds Try.pinned (OpenSpec.ofChange shapeNearWrong)

/- THE SECOND FORM. 'bulk': how many values and letters a reading holds, each counted each time it is reached (what is shared counts as often as it is met; a slice's spare places count too). A statement '..UptoSaid' is the law's where the arguments, and the package variables that the reading takes, are together of bulk at most 1048576: NARROWER than '..Said'. Prove '..Said' where nothing that the law and all that it calls make is longer than what came in: it says more and counts as full. Else prove '..UptoSaid'. A law counts once. -/
mutual
def uptoBulk {H : Type} : DataW H → Nat
  | .lit (.string bytes) => bytes.length + 1
  | .lit _ => 1
  | .nil => 1
  | .ptr d => uptoBulk d + 1
  | .slice elems spare => uptoBulkAll elems + uptoBulkAll spare + 1
  | .agg parts => uptoBulkAll parts + 1
  | .iface _ d => uptoBulk d + 1
  | .map entries => uptoBulkEntries entries + 1
  | .held _ => 1
def uptoBulkAll {H : Type} : List (DataW H) → Nat
  | [] => 0
  | d :: r => uptoBulk d + uptoBulkAll r
def uptoBulkEntries {H : Type} : List (Lit × DataW H) → Nat
  | [] => 0
  | x :: r => uptoBulkEntry x + uptoBulkEntries r
def uptoBulkEntry {H : Type} : Lit × DataW H → Nat
  | (.string bytes, d) => bytes.length + uptoBulk d + 1
  | (_, d) => uptoBulk d + 1
 end
def uptoSmall : (H : Type) → List (DataW H) → Bool := fun _ ds => decide (uptoBulkAll ds ≤ 1048576)
def OpenSpec.upto (s : _root_.Go.ChangeSpec) : _root_.Go.OpenSpec := { _root_.Go.OpenSpec.ofChange s with cond := some uptoSmall }

/-- 'promptbooklaw10.ShapeSums', WHERE WHAT IT READS IS OF BULK AT MOST 1048576: true; the input reads as it did. -/
def shapeSumsUptoRow : OpenClaim := { program := "ytphbfllhlhninaa", sum := "3c6f48ab3f0c5aec6899281e19bdae21eda3de5d3d63f8c014203cf3d59b2506", func := "promptbook/promptbooklaw10.ShapeSums", spec := "shapeSums", apart := false, narrowed := true }
def ShapeSumsUptoSaid : Prop := shapeSumsUptoRow.holds Try.pinned (OpenSpec.upto shapeSumsSpec)

/-- 'promptbooklaw10.ShapeMoves', WHERE WHAT IT READS IS OF BULK AT MOST 1048576: true; the input reads as it did. -/
def shapeMovesUptoRow : OpenClaim := { program := "ytphbfllhlhninaa", sum := "3c6f48ab3f0c5aec6899281e19bdae21eda3de5d3d63f8c014203cf3d59b2506", func := "promptbook/promptbooklaw10.ShapeMoves", spec := "shapeMoves", apart := false, narrowed := true }
def ShapeMovesUptoSaid : Prop := shapeMovesUptoRow.holds Try.pinned (OpenSpec.upto shapeMovesSpec)

/-- 'promptbooklaw10.ShapeTouches', WHERE WHAT IT READS IS OF BULK AT MOST 1048576: true; the input reads as it did. -/
def shapeTouchesUptoRow : OpenClaim := { program := "ytphbfllhlhninaa", sum := "3c6f48ab3f0c5aec6899281e19bdae21eda3de5d3d63f8c014203cf3d59b2506", func := "promptbook/promptbooklaw10.ShapeTouches", spec := "shapeTouches", apart := false, narrowed := true }
def ShapeTouchesUptoSaid : Prop := shapeTouchesUptoRow.holds Try.pinned (OpenSpec.upto shapeTouchesSpec)

/-- 'promptbooklaw10.ShapeNear', WHERE WHAT IT READS IS OF BULK AT MOST 1048576: true; the input reads as it did. -/
def shapeNearUptoRow : OpenClaim := { program := "ytphbfllhlhninaa", sum := "3c6f48ab3f0c5aec6899281e19bdae21eda3de5d3d63f8c014203cf3d59b2506", func := "promptbook/promptbooklaw10.ShapeNear", spec := "shapeNear", apart := false, narrowed := true }
def ShapeNearUptoSaid : Prop := shapeNearUptoRow.holds Try.pinned (OpenSpec.upto shapeNearSpec)

end Rows
end Go.Proofs.Ytphbfllhlhninaa
