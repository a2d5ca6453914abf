/- Two inputs that came in as an array (layer 12, game). -/
import Derived.Test.YtigjflacinlafaaGreatDoorGmOpen
namespace Go.Proofs.YtigjflacinlafaaGreatDoor.Gm
open Go.RowKit Go.ChangeShapes Go.WideShapes Go.ChangeAt
set_option linter.unusedVariables false

set_option maxRecDepth 100000 in
theorem open_in {H : Type} {enc : TypeId × Value → H} {W : World} {r : Reach} {b0 : Nat} {spare : Nat → Bool} {held : Bool} {v : Value} {d : DataW H} {p : List MemPlace}
 (hv : Value.okWide Tryz.prog W r b0 41 v) (h : DataW.Trod enc Tryz.prog W 0 spare held 41 v d p) : ∃ x : Int × Int, v = .agg #[.int .u8 x.1, .int .u8 x.2] ∧ (0 ≤ x.1 ∧ x.1 ≤ 255) ∧ 0 ≤ x.2 ∧ x.2 ≤ 255 := by
 simp only [Value.okWide, Tryz.underlying41] at hv
 obtain ⟨cs, rfl, hsz, _⟩ := hv
 rw [cells_ins] at hsz
 obtain ⟨fuel, hf⟩ := h
 obtain ⟨x, e, hs⟩ := ins_cells hf (by simpa [Value.cells] using hsz)
 refine ⟨x, ?_, hs⟩
 have e2 : cs = (incs x).toArray := by
  apply Array.ext'
  simpa [Value.cells] using e
 rw [e2]

end Go.Proofs.YtigjflacinlafaaGreatDoor.Gm
