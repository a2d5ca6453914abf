/- The acts that come in: what a list of acts that is read as data holds in its cells. -/
import Derived.Test.YtlfhffljepganaaRows
import Derived.WalkKit
import Derived.ProofKit
import Derived.OpenShut
import Derived.Carry
import Derived.Deep.Slices
import Derived.Deep.SlicePairs
import Derived.Deep.Strs
namespace Go.Proofs.Ytlfhffljepganaa.Rg
open Go.RowKit Go.ChangeShapes Go.WideShapes Go.ChangeAt Go.Deep

/-- the acts that came in: of each place its three numbers. -/
def Acts (w : World) (ad : Option Addr) (len : Nat) : Prop := ∀ j, j < len → ∃ (c off : Nat) (kd n x : Int), ad = some ⟨c, off, none⟩ ∧ c < w.heap.size ∧ w.cell? ⟨c, off + j * 3, none⟩ = some (.int .i64 kd) ∧ w.cell? ⟨c, off + j * 3 + 1, none⟩ = some (.int .i64 n) ∧ w.cell? ⟨c, off + j * 3 + 2, none⟩ = some (.int .i64 x)

theorem cells_act : Try.prog.cellsOf 33 = 3 := by kernel_rfl
theorem cells_int : Try.prog.cellsOf 3 = 1 := by kernel_rfl
theorem laid : laidOutB Try.prog = true := by kernel_rfl

theorem acts_of {H : Type} {enc : TypeId × Value → H} {W : World} {spare : Nat → Bool} {held : Bool} {ao : Option Addr} {len cap : Nat} {d : DataW H} {ps : List MemPlace}
    (h : DataW.Trod enc Try.prog W 0 spare held 22 (.slice ao len cap) d ps) : Acts W ao len := by
  intro j hj
  obtain ⟨fuel, hf⟩ := h
  rcases open_slice Try.underlying22 hf with ⟨h0, _⟩ | ⟨a, len', cap', m, n, D, Pl, h0, _, hl, _, hm, _, hx⟩
  · simp [Value.cells] at h0
    omega
  · simp [Value.cells] at h0
    obtain ⟨rfl, rfl, rfl⟩ := h0
    have hlm : len ≤ m := by rw [hm]; split <;> omega
    have hs : a.spot = none := by
      obtain ⟨cs0, h10, _⟩ := hx 0 (by omega)
      rw [cells_act] at h10
      obtain ⟨_, hl0, hc0⟩ := World.cells?_some h10
      have := World.cell?_spot ((hc0 0 (by omega)).trans (List.getElem?_eq_getElem (by omega)))
      simpa [Addr.add] using this
    obtain ⟨cs, h1, h2⟩ := hx j (by omega)
    rw [cells_act] at h1
    obtain ⟨_, hlen, hcell⟩ := World.cells?_some h1
    obtain ⟨y0, y1, y2, k, _, _, g0, g1, g2⟩ := trod_struct3 Try.underlying33 h2
    match cs, hlen with
    | [v0, v1, v2], _ =>
      simp only [cells_int] at g0 g1 g2
      have e0 := hcell 0 (by omega)
      have e1 := hcell 1 (by omega)
      have e2 := hcell 2 (by omega)
      obtain ⟨c, off, spot⟩ := a
      simp only at hs
      subst hs
      rw [add_add, Addr.add_lit] at e0 e1 e2
      obtain ⟨n0, q0, _⟩ := DataW.trod_int (k := .i64) Try.underlying3 g0
      obtain ⟨n1, q1, _⟩ := DataW.trod_int (k := .i64) Try.underlying3 g1
      obtain ⟨n2, q2, _⟩ := DataW.trod_int (k := .i64) Try.underlying3 g2
      simp at q0 q1 q2 e0 e1 e2
      subst q0 q1 q2
      exact ⟨c, off, n0, n1, n2, rfl, World.block_lt_of_cell? W _ e0, e0, by rw [Nat.add_assoc]; exact e1, by rw [Nat.add_assoc]; exact e2⟩

end Go.Proofs.Ytlfhffljepganaa.Rg
