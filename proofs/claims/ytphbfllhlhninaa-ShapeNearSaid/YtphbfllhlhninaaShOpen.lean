/- Places, ways and boxes that come in: what one that is read as data holds in its cells (layer 10, shape). -/
import Derived.Test.YtphbfllhlhninaaShA
import Derived.ProofKit
import Derived.Deep.Fields
namespace Go.Proofs.Ytphbfllhlhninaa.Sh
open Go.RowKit Go.ChangeShapes Go.WideShapes Go.ChangeAt Go.Deep
set_option linter.unusedVariables false

theorem cells_fix : Try.prog.cellsOf 22 = 1 := by kernel_rfl
theorem cells_vec : Try.prog.cellsOf 24 = 2 := by kernel_rfl
theorem cells_box : Try.prog.cellsOf 26 = 4 := by kernel_rfl
theorem laid : laidOutB Try.prog = true := by kernel_rfl

theorem vec_cells {H : Type} {enc : TypeId × Value → H} {W : World} {spare : Nat → Bool} {held : Bool} {fuel : Nat} {cs : List Value} {y : DataW H × List MemPlace}
    (hf : DataW.trod enc Try.prog W 0 spare held fuel 24 cs = some y) (hl : cs.length = 2) : ∃ x : Int × Int, cs = [.int .i32 x.1, .int .i32 x.2] ∧ In32 x.1 ∧ In32 x.2 := by
  obtain ⟨xs, n, _, _, _, hxl, hg⟩ := DataW.trod_struct Try.underlying24 hf
  match cs, hl with
  | [c0, c1], _ =>
    match xs, hxl with
    | [x0, x1], _ =>
      have g0 : DataW.trod enc Try.prog W 0 spare held n 22 [c0] = some x0 := by simpa [cells_fix] using hg 0 _ rfl
      have g1 : DataW.trod enc Try.prog W 0 spare held n 22 [c1] = some x1 := by simpa [cells_fix] using hg 1 _ rfl
      obtain ⟨k0, e0, _, w0⟩ := DataW.trod_int (k := .i32) Try.underlying22 g0
      obtain ⟨k1, e1, _, w1⟩ := DataW.trod_int (k := .i32) Try.underlying22 g1
      injection e0 with e0; injection e1 with e1
      subst e0 e1
      exact ⟨(k0, k1), rfl, bounds_i32 w0, bounds_i32 w1⟩

theorem box_cells {H : Type} {enc : TypeId × Value → H} {W : World} {spare : Nat → Bool} {held : Bool} {fuel : Nat} {cs : List Value} {y : DataW H × List MemPlace}
    (hf : DataW.trod enc Try.prog W 0 spare held fuel 26 cs = some y) (hl : cs.length = 4) : ∃ x : (Int × Int) × (Int × Int), cs = [.int .i32 x.1.1, .int .i32 x.1.2, .int .i32 x.2.1, .int .i32 x.2.2] ∧ In32 x.1.1 ∧ In32 x.1.2 ∧ In32 x.2.1 ∧ In32 x.2.2 := by
  obtain ⟨xs, n, _, _, _, hxl, hg⟩ := DataW.trod_struct Try.underlying26 hf
  match cs, hl with
  | [c0, c1, c2, c3], _ =>
    match xs, hxl with
    | [x0, x1], _ =>
      have g0 : DataW.trod enc Try.prog W 0 spare held n 24 [c0, c1] = some x0 := by simpa [cells_vec] using hg 0 _ rfl
      have g1 : DataW.trod enc Try.prog W 0 spare held n 24 [c2, c3] = some x1 := by simpa [cells_vec] using hg 1 _ rfl
      obtain ⟨u, e0, a0, a1⟩ := vec_cells g0 rfl
      obtain ⟨v, e1, b0, b1⟩ := vec_cells g1 rfl
      injection e0 with e00 e01; injection e01 with e01; injection e1 with e10 e11; injection e11 with e11
      subst e00 e01 e10 e11
      exact ⟨(u, v), rfl, a0, a1, b0, b1⟩

/-- a place that came in. -/
theorem open_vec {H : Type} {enc : TypeId × Value → H} {W : World} {r : Reach} {b0 : Nat} {spare : Nat → Bool} {held : Bool} {v : Value} {d : DataW H} {p : List MemPlace}
    (hv : Value.okWide Try.prog W r b0 24 v) (h : DataW.Trod enc Try.prog W 0 spare held 24 v d p) : ∃ x : Int × Int, v = vec x.1 x.2 ∧ In32 x.1 ∧ In32 x.2 := by
  obtain ⟨cs, rfl, hsz⟩ := okWide_struct Try.underlying24 hv
  rw [cells_vec] at hsz
  obtain ⟨fuel, hf⟩ := h
  obtain ⟨x, e, hx⟩ := vec_cells hf (by simpa [Value.cells] using hsz)
  refine ⟨x, ?_, hx⟩
  have e2 : cs = #[.int .i32 x.1, .int .i32 x.2] := by
    apply Array.ext'
    simpa [Value.cells] using e
  rw [e2]

/-- a box that came in. -/
theorem open_box {H : Type} {enc : TypeId × Value → H} {W : World} {r : Reach} {b0 : Nat} {spare : Nat → Bool} {held : Bool} {v : Value} {d : DataW H} {p : List MemPlace}
    (hv : Value.okWide Try.prog W r b0 26 v) (h : DataW.Trod enc Try.prog W 0 spare held 26 v d p) : ∃ x : (Int × Int) × (Int × Int), v = box x.1.1 x.1.2 x.2.1 x.2.2 ∧ In32 x.1.1 ∧ In32 x.1.2 ∧ In32 x.2.1 ∧ In32 x.2.2 := by
  obtain ⟨cs, rfl, hsz⟩ := okWide_struct Try.underlying26 hv
  rw [cells_box] at hsz
  obtain ⟨fuel, hf⟩ := h
  obtain ⟨x, e, hx⟩ := box_cells hf (by simpa [Value.cells] using hsz)
  refine ⟨x, ?_, hx⟩
  have e2 : cs = #[.int .i32 x.1.1, .int .i32 x.1.2, .int .i32 x.2.1, .int .i32 x.2.2] := by
    apply Array.ext'
    simpa [Value.cells] using e
  rw [e2]

end Go.Proofs.Ytphbfllhlhninaa.Sh
