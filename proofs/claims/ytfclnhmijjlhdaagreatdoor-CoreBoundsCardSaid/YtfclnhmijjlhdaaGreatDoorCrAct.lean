/- Acts and configs that come in (layer 15, core). -/
import Derived.Test.YtfclnhmijjlhdaaGreatDoorCrLw
import Derived.ProofKit
import Derived.OpenShut
import Derived.Carry
import Derived.Deep.Slices
import Derived.Deep.SlicePairs
import Derived.Deep.Strs
import Derived.Deep.Fields
namespace Go.Proofs.YtfclnhmijjlhdaaGreatDoor.Cr
open Go.RowKit Go.Proofs.YtfclnhmijjlhdaaGreatDoor.Rg Go.ChangeShapes Go.WideShapes Go.ChangeAt Go.Deep
set_option linter.unusedVariables false
set_option maxRecDepth 100000

/-- the acts that came in: of each place its three fields. -/
def Acts (w : World) (ad : Option Addr) (len : Nat) : Prop := ∀ j, j < len → ∃ (c off : Nat) (kd f x : Int), ad = some ⟨c, off, none⟩ ∧ c < w.heap.size ∧ (0 ≤ x ∧ x ≤ 255) ∧
 w.cell? ⟨c, off + j * 3, none⟩ = some (.int .i64 kd) ∧ w.cell? ⟨c, off + j * 3 + 1, none⟩ = some (.int .i64 f) ∧ w.cell? ⟨c, off + j * 3 + 2, none⟩ = some (.int .u8 x)

theorem cells_act : Tryz.prog.cellsOf 36 = 3 := by kernel_rfl
theorem cells_int : Tryz.prog.cellsOf 3 = 1 := by kernel_rfl
theorem cells_u8 : Tryz.prog.cellsOf 5 = 1 := by kernel_rfl

theorem acts_of {H : Type} {enc : TypeId × Value → H} {W : World} {spare : Nat → Bool} {held : Bool} {ao : Option Addr} {len cap : Nat} {d : DataW H} {ps : List MemPlace}
 (h : DataW.Trod enc Tryz.prog W 0 spare held 25 (.slice ao len cap) d ps) : Acts W ao len := by
 intro j hj
 obtain ⟨fuel, hf⟩ := h
 rcases open_slice Tryz.underlying25 hf with ⟨h0, _⟩ | ⟨a, len', cap', m, n, D, Pl, h0, _, hl, _, hm, _, hx⟩
 · simp [Value.cells] at h0
   omega
 · simp [Value.cells] at h0
   obtain ⟨rfl, rfl, rfl⟩ := h0
   have hlm : len ≤ m := by rw [hm]; split <;> omega
   have hs : a.spot = none := by
    obtain ⟨cs0, h10, _⟩ := hx 0 (by omega)
    rw [cells_act] at h10
    obtain ⟨_, hl0, hc0⟩ := World.cells?_some h10
    have := World.cell?_spot ((hc0 0 (by omega)).trans (List.getElem?_eq_getElem (by omega)))
    simpa [Addr.add] using this
   obtain ⟨cs, h1, h2⟩ := hx j (by omega)
   rw [cells_act] at h1
   obtain ⟨_, hlen, hcell⟩ := World.cells?_some h1
   obtain ⟨y0, y1, y2, k, _, _, g0, g1, g2⟩ := trod_struct3 Tryz.underlying36 h2
   match cs, hlen with
   | [v0, v1, v2], _ =>
    simp only [cells_int, cells_u8] at g0 g1 g2
    have e0 := hcell 0 (by omega)
    have e1 := hcell 1 (by omega)
    have e2 := hcell 2 (by omega)
    obtain ⟨c, off, spot⟩ := a
    simp only at hs
    subst hs
    rw [add_add, Addr.add_lit] at e0 e1 e2
    obtain ⟨n0, q0, _⟩ := DataW.trod_int (k := .i64) Tryz.underlying3 g0
    obtain ⟨n1, q1, _⟩ := DataW.trod_int (k := .i64) Tryz.underlying3 g1
    obtain ⟨n2, q2, _, w2⟩ := DataW.trod_int (k := .u8) Tryz.underlying5 g2
    simp at q0 q1 q2 e0 e1 e2
    subst q0 q1 q2
    exact ⟨c, off, n0, n1, n2, rfl, World.block_lt_of_cell? W _ e0, bounds_u8 w2, e0, by rw [Nat.add_assoc]; exact e1, by rw [Nat.add_assoc]; exact e2⟩

theorem cells_u32 : Tryz.prog.cellsOf 22 = 1 := by kernel_rfl
theorem cells_cfg : Tryz.prog.cellsOf 24 = 4 := by kernel_rfl
/-- a config that came in. -/
theorem open_cfg {H : Type} {enc : TypeId × Value → H} {W : World} {r : Reach} {b0 : Nat} {spare : Nat → Bool} {held : Bool} {v : Value} {d : DataW H} {p : List MemPlace}
 (hv : Value.okWide Tryz.prog W r b0 24 v) (h : DataW.Trod enc Tryz.prog W 0 spare held 24 v d p) : ∃ x : Int × Int × Int × Int, v = .agg #[.int .u32 x.1, .int .i64 x.2.1, .int .i64 x.2.2.1, .int .i64 x.2.2.2] ∧ 0 ≤ x.1 ∧ x.1 < 4294967296 := by
 obtain ⟨cs, rfl, hsz⟩ := okWide_struct Tryz.underlying24 hv
 rw [cells_cfg] at hsz
 obtain ⟨fuel, hf⟩ := h
 obtain ⟨xs, n, _, _, _, hxl, hg⟩ := DataW.trod_struct Tryz.underlying24 hf
 have hl : cs.toList.length = 4 := by simpa using hsz
 have hcs : cs = cs.toList.toArray := by simp
 rw [hcs]
 simp only [Value.cells] at hg
 generalize cs.toList = l at *
 match l, hl with
 | [c0, c1, c2, c3], _ =>
  match xs, hxl with
  | [x0, x1, x2, x3], _ =>
   have g0 : DataW.trod enc Tryz.prog W 0 spare held n 22 [c0] = some x0 := by simpa [cells_int, cells_u32] using hg 0 _ rfl
   have g1 : DataW.trod enc Tryz.prog W 0 spare held n 3 [c1] = some x1 := by simpa [cells_int, cells_u32] using hg 1 _ rfl
   have g2 : DataW.trod enc Tryz.prog W 0 spare held n 3 [c2] = some x2 := by simpa [cells_int, cells_u32] using hg 2 _ rfl
   have g3 : DataW.trod enc Tryz.prog W 0 spare held n 3 [c3] = some x3 := by simpa [cells_int, cells_u32] using hg 3 _ rfl
   obtain ⟨k0, e0, _, w0⟩ := DataW.trod_int (k := .u32) Tryz.underlying22 g0
   obtain ⟨k1, e1, _, w1⟩ := DataW.trod_int (k := .i64) Tryz.underlying3 g1
   obtain ⟨k2, e2, _, w2⟩ := DataW.trod_int (k := .i64) Tryz.underlying3 g2
   obtain ⟨k3, e3, _, w3⟩ := DataW.trod_int (k := .i64) Tryz.underlying3 g3
   injection e0 with e0; injection e1 with e1; injection e2 with e2; injection e3 with e3
   subst e0 e1 e2 e3
   have hb := bounds_u32 w0
   exact ⟨(k0, k1, k2, k3), rfl, hb.1, by have := hb.2; omega⟩
end Go.Proofs.YtfclnhmijjlhdaaGreatDoor.Cr
