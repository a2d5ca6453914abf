/- The acts that come in: what an act, and a list of acts, that is read as data holds in its cells. -/
import Derived.Test.YtfifoikphhjomaaCbDoes
import Derived.ProofKit
namespace Go.Proofs.Ytfifoikphhjomaa.Cb
open Go.RowKit Go.Proofs.Ytfifoikphhjomaa.Rg Go.ChangeShapes Go.WideShapes Go.ChangeAt Go.Deep
set_option linter.unusedVariables false

def InA (x : Ac) : Prop := x.s.size ≤ maxLen ∧ 0 ≤ x.by_ ∧ x.by_ ≤ 255
/-- the acts that came in: of each place its six fields. -/
def Acts (w : World) (ad : Option Addr) (len : Nat) : Prop := ∀ j, j < len → ∃ (c off : Nat) (x : Ac), ad = some ⟨c, off, none⟩ ∧ c < w.heap.size ∧ InA x ∧
  w.cell? ⟨c, off + j * 6, none⟩ = some (.int .i64 x.kd) ∧ w.cell? ⟨c, off + j * 6 + 1, none⟩ = some (.int .i64 x.dd) ∧ w.cell? ⟨c, off + j * 6 + 2, none⟩ = some (.int .i64 x.i) ∧
  w.cell? ⟨c, off + j * 6 + 3, none⟩ = some (.string x.s) ∧ w.cell? ⟨c, off + j * 6 + 4, none⟩ = some (.int .i64 x.at_) ∧ w.cell? ⟨c, off + j * 6 + 5, none⟩ = some (.int .u8 x.by_)

theorem cells_act : Try.prog.cellsOf 34 = 6 := by kernel_rfl
theorem cells_int : Try.prog.cellsOf 3 = 1 := by kernel_rfl
theorem cells_str : Try.prog.cellsOf 9 = 1 := by kernel_rfl
theorem cells_u8 : Try.prog.cellsOf 5 = 1 := by kernel_rfl
theorem laid : laidOutB Try.prog = true := by kernel_rfl

/-- an act's cells, read as data. -/
theorem act_cells {H : Type} {enc : TypeId × Value → H} {W : World} {spare : Nat → Bool} {held : Bool} {fuel : Nat} {cs : List Value} {y : DataW H × List MemPlace}
    (hf : DataW.trod enc Try.prog W 0 spare held fuel 34 cs = some y) (hl : cs.length = 6) : ∃ x : Ac, cs = (cellsA x).toList ∧ InA x := by
  obtain ⟨xs, n, _, _, _, hxl, hg⟩ := DataW.trod_struct Try.underlying34 hf
  match cs, hl with
  | [c0, c1, c2, c3, c4, c5], _ =>
    match xs, hxl with
    | [x0, x1, x2, x3, x4, x5], _ =>
      have g0 : DataW.trod enc Try.prog W 0 spare held n 3 [c0] = some x0 := by simpa [cells_int] using hg 0 _ rfl
      have g1 : DataW.trod enc Try.prog W 0 spare held n 3 [c1] = some x1 := by simpa [cells_int] using hg 1 _ rfl
      have g2 : DataW.trod enc Try.prog W 0 spare held n 3 [c2] = some x2 := by simpa [cells_int] using hg 2 _ rfl
      have g3 : DataW.trod enc Try.prog W 0 spare held n 9 [c3] = some x3 := by simpa [cells_str] using hg 3 _ rfl
      have g4 : DataW.trod enc Try.prog W 0 spare held n 3 [c4] = some x4 := by simpa [cells_int] using hg 4 _ rfl
      have g5 : DataW.trod enc Try.prog W 0 spare held n 5 [c5] = some x5 := by simpa [cells_u8] using hg 5 _ rfl
      obtain ⟨k0, e0, _, _⟩ := DataW.trod_int (k := .i64) Try.underlying3 g0
      obtain ⟨k1, e1, _, _⟩ := DataW.trod_int (k := .i64) Try.underlying3 g1
      obtain ⟨k2, e2, _, _⟩ := DataW.trod_int (k := .i64) Try.underlying3 g2
      obtain ⟨s, e3, _, hs⟩ := DataW.trod_string Try.underlying9 g3
      obtain ⟨k4, e4, _, _⟩ := DataW.trod_int (k := .i64) Try.underlying3 g4
      obtain ⟨k5, e5, _, w5⟩ := DataW.trod_int (k := .u8) Try.underlying5 g5
      injection e0 with e0; injection e1 with e1; injection e2 with e2; injection e3 with e3; injection e4 with e4; injection e5 with e5
      subst e0 e1 e2 e3 e4 e5
      exact ⟨⟨k0, k1, k2, s, k4, k5⟩, rfl, hs, bounds_u8 w5⟩

/-- an act that came in. -/
theorem open_act {H : Type} {enc : TypeId × Value → H} {W : World} {r : Reach} {b0 : Nat} {spare : Nat → Bool} {held : Bool} {v : Value} {d : DataW H} {p : List MemPlace}
    (hv : Value.okWide Try.prog W r b0 34 v) (h : DataW.Trod enc Try.prog W 0 spare held 34 v d p) : ∃ x, v = .agg (cellsA x) ∧ InA x := by
  obtain ⟨cs, rfl, hsz⟩ := okWide_struct Try.underlying34 hv
  rw [cells_act] at hsz
  obtain ⟨fuel, hf⟩ := h
  obtain ⟨x, e, hx⟩ := act_cells hf (by simpa [Value.cells] using hsz)
  refine ⟨x, ?_, hx⟩
  have e2 : cs = cellsA x := by
    apply Array.ext'
    simpa [Value.cells] using e
  rw [e2]

theorem acts_of {H : Type} {enc : TypeId × Value → H} {W : World} {spare : Nat → Bool} {held : Bool} {ao : Option Addr} {len cap : Nat} {d : DataW H} {ps : List MemPlace}
    (h : DataW.Trod enc Try.prog W 0 spare held 22 (.slice ao len cap) d ps) : Acts W ao len := by
  intro j hj
  obtain ⟨fuel, hf⟩ := h
  rcases open_slice Try.underlying22 hf with ⟨h0, _⟩ | ⟨a, len', cap', m, n, D, Pl, h0, _, hl, _, hm, _, hx⟩
  · simp [Value.cells] at h0
    omega
  · simp [Value.cells] at h0
    obtain ⟨rfl, rfl, rfl⟩ := h0
    have hlm : len ≤ m := by rw [hm]; split <;> omega
    have hs : a.spot = none := by
      obtain ⟨cs0, h10, _⟩ := hx 0 (by omega)
      rw [cells_act] at h10
      obtain ⟨_, hl0, hc0⟩ := World.cells?_some h10
      have := World.cell?_spot ((hc0 0 (by omega)).trans (List.getElem?_eq_getElem (by omega)))
      simpa [Addr.add] using this
    obtain ⟨cs, h1, h2⟩ := hx j (by omega)
    rw [cells_act] at h1
    obtain ⟨_, hlen, hcell⟩ := World.cells?_some h1
    obtain ⟨x, e, hin⟩ := act_cells h2 hlen
    subst e
    obtain ⟨c, off, spot⟩ := a
    simp only at hs
    subst hs
    have e0 := hcell 0 (by omega)
    have e1 := hcell 1 (by omega)
    have e2 := hcell 2 (by omega)
    have e3 := hcell 3 (by omega)
    have e4 := hcell 4 (by omega)
    have e5 := hcell 5 (by omega)
    rw [add_add, Addr.add_lit] at e0 e1 e2 e3 e4 e5
    simp [cellsA] at e0 e1 e2 e3 e4 e5
    exact ⟨c, off, x, rfl, World.block_lt_of_cell? W _ e0, hin, e0, by rw [Nat.add_assoc]; exact e1, by rw [Nat.add_assoc]; exact e2, by rw [Nat.add_assoc]; exact e3, by rw [Nat.add_assoc]; exact e4, by rw [Nat.add_assoc]; exact e5⟩

end Go.Proofs.Ytfifoikphhjomaa.Cb
