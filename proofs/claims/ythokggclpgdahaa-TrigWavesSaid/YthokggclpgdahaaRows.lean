/-
  No cell of these rows narrows 'for every input' (looked for: loops, veiled, ifaces, maps, wideKeys, modest, calm, conditions, laid).
  DERIVED. THE GIVEN ROWS OF THIS SEAT. 4 by the template 'for every input the law returns true; each argument reads behind the call as it read before'; 0 by the template 'total and deterministic' (their statements: YthokggclpgdahaaTotals.lean).
  GIVEN WITH THE SEED: the statements are not yours to turn. If you find one false, say at which input.
  Laid BY PROGRAM, IN A SANDBOX (cutbox-rows.mjs): the forced cells as the released guide's own fill.sh prints them over the translation da1fc1d868700de2… (all of the seat's roots in one cut). By AI agents, Wed Nov 11 2026. No macro, syntax, notation, axiom, sorry.
-/
import Derived.Test.YthokggclpgdahaaChecked
import GoSem.Claim
import GoSem.ClaimJoined
import GoSem.ClaimMapViews
import Derived.JoinedTies
import Derived.KernelRfl
namespace Go.Proofs.Ythokggclpgdahaa
/- THE CELL 'sum', in the pinned program and in every row, IS THE sha256 OF THE DUMP (.gsa) THAT YthokggclpgdahaaProg.lean LOADS. Nothing in Lean hashes anything: it is a label: what it is worth is what the hold of that sum in a sandbox is worth. -/
noncomputable def Try.pinned : Pinned := { name := "ythokggclpgdahaa", sum := "da1fc1d868700de23b5ab79e992aa5ef5ad72af954e1aa7100e7d5c63febe505", checked := Try.checked }
namespace Rows
def none {H : Type} : Left H := { results := [], args := [] }

/-- 'promptbooklaw02.TrigRoots': WHATEVER THE INPUT: true; the input reads as it did. -/
def trigRootsSpec : ChangeSpec := { name := "trigRoots", fn := fun _ => fun
  | [d] => { results := [.lit (.bool true)], args := [d] }
  | _ => none }
def trigRootsRow : OpenClaim := { program := "ythokggclpgdahaa", sum := "da1fc1d868700de23b5ab79e992aa5ef5ad72af954e1aa7100e7d5c63febe505", func := "promptbook/promptbooklaw02.TrigRoots", spec := "trigRoots", apart := false }
def TrigRootsSaid : Prop := trigRootsRow.holds Try.pinned (OpenSpec.ofChange trigRootsSpec)

/-- ITS FALSE NEIGHBOUR: 'it returns false'. Refute it at one input. -/
def trigRootsWrong : ChangeSpec := { name := "trigRoots", fn := fun _ => fun
  | [d] => { results := [.lit (.bool false)], args := [d] }
  | _ => none }
def TrigRootsWrongFalsely : Prop := trigRootsRow.holds Try.pinned (OpenSpec.ofChange trigRootsWrong)

/-- 'promptbooklaw02.TrigWaves': WHATEVER THE INPUT: true; the input reads as it did. -/
def trigWavesSpec : ChangeSpec := { name := "trigWaves", fn := fun _ => fun
  | [d] => { results := [.lit (.bool true)], args := [d] }
  | _ => none }
def trigWavesRow : OpenClaim := { program := "ythokggclpgdahaa", sum := "da1fc1d868700de23b5ab79e992aa5ef5ad72af954e1aa7100e7d5c63febe505", func := "promptbook/promptbooklaw02.TrigWaves", spec := "trigWaves", apart := false }
def TrigWavesSaid : Prop := trigWavesRow.holds Try.pinned (OpenSpec.ofChange trigWavesSpec)

/-- ITS FALSE NEIGHBOUR: 'it returns false'. Refute it at one input. -/
def trigWavesWrong : ChangeSpec := { name := "trigWaves", fn := fun _ => fun
  | [d] => { results := [.lit (.bool false)], args := [d] }
  | _ => none }
def TrigWavesWrongFalsely : Prop := trigWavesRow.holds Try.pinned (OpenSpec.ofChange trigWavesWrong)

/-- 'promptbooklaw02.TrigMirrors': WHATEVER THE INPUT: true; the input reads as it did. -/
def trigMirrorsSpec : ChangeSpec := { name := "trigMirrors", fn := fun _ => fun
  | [d] => { results := [.lit (.bool true)], args := [d] }
  | _ => none }
def trigMirrorsRow : OpenClaim := { program := "ythokggclpgdahaa", sum := "da1fc1d868700de23b5ab79e992aa5ef5ad72af954e1aa7100e7d5c63febe505", func := "promptbook/promptbooklaw02.TrigMirrors", spec := "trigMirrors", apart := false }
def TrigMirrorsSaid : Prop := trigMirrorsRow.holds Try.pinned (OpenSpec.ofChange trigMirrorsSpec)

/-- ITS FALSE NEIGHBOUR: 'it returns false'. Refute it at one input. -/
def trigMirrorsWrong : ChangeSpec := { name := "trigMirrors", fn := fun _ => fun
  | [d] => { results := [.lit (.bool false)], args := [d] }
  | _ => none }
def TrigMirrorsWrongFalsely : Prop := trigMirrorsRow.holds Try.pinned (OpenSpec.ofChange trigMirrorsWrong)

/-- 'promptbooklaw02.TrigLengths': WHATEVER THE INPUT: true; the input reads as it did. -/
def trigLengthsSpec : ChangeSpec := { name := "trigLengths", fn := fun _ => fun
  | [d1, d2, d3, d4] => { results := [.lit (.bool true)], args := [d1, d2, d3, d4] }
  | _ => none }
def trigLengthsRow : OpenClaim := { program := "ythokggclpgdahaa", sum := "da1fc1d868700de23b5ab79e992aa5ef5ad72af954e1aa7100e7d5c63febe505", func := "promptbook/promptbooklaw02.TrigLengths", spec := "trigLengths", apart := false }
def TrigLengthsSaid : Prop := trigLengthsRow.holds Try.pinned (OpenSpec.ofChange trigLengthsSpec)

/-- ITS FALSE NEIGHBOUR: 'it returns false'. Refute it at one input. -/
def trigLengthsWrong : ChangeSpec := { name := "trigLengths", fn := fun _ => fun
  | [d1, d2, d3, d4] => { results := [.lit (.bool false)], args := [d1, d2, d3, d4] }
  | _ => none }
def TrigLengthsWrongFalsely : Prop := trigLengthsRow.holds Try.pinned (OpenSpec.ofChange trigLengthsWrong)

/- THE SECOND FORM. 'bulk': how many values and letters a reading holds, each counted each time it is reached (what is shared counts as often as it is met; a slice's spare places count too). A statement '..UptoSaid' is the law's where the arguments, and the package variables that the reading takes, are together of bulk at most 1048576: NARROWER than '..Said'. Prove '..Said' where nothing that the law and all that it calls make is longer than what came in: it says more and counts as full. Else prove '..UptoSaid'. A law counts once. -/
mutual
def uptoBulk {H : Type} : DataW H → Nat
  | .lit (.string bytes) => bytes.length + 1
  | .lit _ => 1
  | .nil => 1
  | .ptr d => uptoBulk d + 1
  | .slice elems spare => uptoBulkAll elems + uptoBulkAll spare + 1
  | .agg parts => uptoBulkAll parts + 1
  | .iface _ d => uptoBulk d + 1
  | .map entries => uptoBulkEntries entries + 1
  | .held _ => 1
def uptoBulkAll {H : Type} : List (DataW H) → Nat
  | [] => 0
  | d :: r => uptoBulk d + uptoBulkAll r
def uptoBulkEntries {H : Type} : List (Lit × DataW H) → Nat
  | [] => 0
  | x :: r => uptoBulkEntry x + uptoBulkEntries r
def uptoBulkEntry {H : Type} : Lit × DataW H → Nat
  | (.string bytes, d) => bytes.length + uptoBulk d + 1
  | (_, d) => uptoBulk d + 1
 end
def uptoSmall : (H : Type) → List (DataW H) → Bool := fun _ ds => decide (uptoBulkAll ds ≤ 1048576)
def OpenSpec.upto (s : _root_.Go.ChangeSpec) : _root_.Go.OpenSpec := { _root_.Go.OpenSpec.ofChange s with cond := some uptoSmall }

/-- 'promptbooklaw02.TrigRoots', WHERE WHAT IT READS IS OF BULK AT MOST 1048576: true; the input reads as it did. -/
def trigRootsUptoRow : OpenClaim := { program := "ythokggclpgdahaa", sum := "da1fc1d868700de23b5ab79e992aa5ef5ad72af954e1aa7100e7d5c63febe505", func := "promptbook/promptbooklaw02.TrigRoots", spec := "trigRoots", apart := false, narrowed := true }
def TrigRootsUptoSaid : Prop := trigRootsUptoRow.holds Try.pinned (OpenSpec.upto trigRootsSpec)

/-- 'promptbooklaw02.TrigWaves', WHERE WHAT IT READS IS OF BULK AT MOST 1048576: true; the input reads as it did. -/
def trigWavesUptoRow : OpenClaim := { program := "ythokggclpgdahaa", sum := "da1fc1d868700de23b5ab79e992aa5ef5ad72af954e1aa7100e7d5c63febe505", func := "promptbook/promptbooklaw02.TrigWaves", spec := "trigWaves", apart := false, narrowed := true }
def TrigWavesUptoSaid : Prop := trigWavesUptoRow.holds Try.pinned (OpenSpec.upto trigWavesSpec)

/-- 'promptbooklaw02.TrigMirrors', WHERE WHAT IT READS IS OF BULK AT MOST 1048576: true; the input reads as it did. -/
def trigMirrorsUptoRow : OpenClaim := { program := "ythokggclpgdahaa", sum := "da1fc1d868700de23b5ab79e992aa5ef5ad72af954e1aa7100e7d5c63febe505", func := "promptbook/promptbooklaw02.TrigMirrors", spec := "trigMirrors", apart := false, narrowed := true }
def TrigMirrorsUptoSaid : Prop := trigMirrorsUptoRow.holds Try.pinned (OpenSpec.upto trigMirrorsSpec)

/-- 'promptbooklaw02.TrigLengths', WHERE WHAT IT READS IS OF BULK AT MOST 1048576: true; the input reads as it did. -/
def trigLengthsUptoRow : OpenClaim := { program := "ythokggclpgdahaa", sum := "da1fc1d868700de23b5ab79e992aa5ef5ad72af954e1aa7100e7d5c63febe505", func := "promptbook/promptbooklaw02.TrigLengths", spec := "trigLengths", apart := false, narrowed := true }
def TrigLengthsUptoSaid : Prop := trigLengthsUptoRow.holds Try.pinned (OpenSpec.upto trigLengthsSpec)

end Rows
end Go.Proofs.Ythokggclpgdahaa
