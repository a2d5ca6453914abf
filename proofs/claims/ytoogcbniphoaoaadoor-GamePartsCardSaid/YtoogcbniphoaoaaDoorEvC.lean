/- Which key stands ahead, as the document says it (layer 11, event). -/
import Derived.Test.YtoogcbniphoaoaaDoorEvB
import Derived.Deep.QuietTactic
import Derived.BigQuiet
namespace Go.Proofs.YtoogcbniphoaoaaDoor.Ev
open Go.RowKit
set_option linter.unusedVariables false

def fld (x : Ky) : Nat → Int
  | 0 => x.f
  | 1 => x.e
  | 2 => x.k
  | _ => x.o
def rest (x y : Ky) : Nat → Int
  | 0 => cmpK x y
  | 1 => orI (cmpI x.e y.e) (orI (cmpI x.k y.k) (cmpI x.o y.o))
  | 2 => orI (cmpI x.k y.k) (cmpI x.o y.o)
  | 3 => cmpI x.o y.o
  | _ => 0
theorem rest_step (x y : Ky) {k : Nat} (hk : k < 4) : rest x y k = orI (cmpI (fld x k) (fld y k)) (rest x y (k + 1)) := by
  match k, hk with
  | 0, _ => rfl
  | 1, _ => rfl
  | 2, _ => rfl
  | 3, _ => simp [rest, fld, orI]
theorem fld_cell {w : World} {b : Nat} {x : Ky} {T : TypeId} (h : At w b #[.int .i64 x.f, .int .i64 x.e, .int .i64 x.k, .int .i64 x.o] T) {k : Nat} (hk : k < 4) : w.cell? ⟨b, k, none⟩ = some (.int .i64 (fld x k)) := by
  obtain ⟨h0, h1, h2, h3⟩ := h.four
  match k, hk with
  | 0, _ => exact h0
  | 1, _ => exact h1
  | 2, _ => exact h2
  | 3, _ => exact h3

end Go.Proofs.YtoogcbniphoaoaaDoor.Ev
