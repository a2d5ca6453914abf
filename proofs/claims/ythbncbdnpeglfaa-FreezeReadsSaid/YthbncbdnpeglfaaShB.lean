/- Places and boxes in memory; what Push, Slow and Touch, and the document's, return (layer 10, shape). -/
import Derived.Test.YthbncbdnpeglfaaShA
namespace Go.Proofs.Ythbncbdnpeglfaa.Sh
open Go.RowKit Go.Proofs.Ythbncbdnpeglfaa.Fx Go.Proofs.Ythbncbdnpeglfaa.Tg
set_option linter.unusedVariables false

/-- block b holds just these cells. -/
def At (w : World) (b : Nat) (cs : Array Value) (T : TypeId) : Prop := w.heap[b]? = some (.cells cs T (0, 0))
theorem At.new (w : World) (cs : Array Value) (T : TypeId) : At (w.alloc (.cells cs T)) w.heap.size cs T := heap_alloc_new w _
theorem At.below {w w' : World} {b : Nat} {cs : Array Value} {T : TypeId} (h : At w b cs T) (hb : Below w.heap.size w w') : At w' b cs T := by
  unfold At at h ⊢
  rw [hb.block b (Array.getElem?_eq_some_iff.1 h).1]
  exact h
theorem At.more {w : World} {b : Nat} {cs : Array Value} {T : TypeId} (h : At w b cs T) (o : Obj) : At (w.alloc o) b cs T := h.below (bal (br w) o)
theorem At.drew {w : World} {b : Nat} {cs : Array Value} {T : TypeId} (h : At w b cs T) : At w.drew b cs T := h.below (bd1 (br w))
theorem At.lt {w : World} {b : Nat} {cs : Array Value} {T : TypeId} (h : At w b cs T) : b < w.heap.size := (Array.getElem?_eq_some_iff.1 h).1
theorem At.frozen {w : World} {b : Nat} {cs : Array Value} {T : TypeId} (h : At w b cs T) (j : Nat) : w.frozen? ⟨b, j, none⟩ = false := frozen_of_row w b j _ _ h
theorem At.two {w : World} {b : Nat} {v0 v1 : Value} {T : TypeId} (h : At w b #[v0, v1] T) : w.cell? ⟨b, 0, none⟩ = some v0 ∧ w.cell? ⟨b, 1, none⟩ = some v1 := by
  have hc := fun j => cell_of_row w b j _ _ _ h
  refine ⟨?_, ?_⟩ <;> (rw [hc]; rfl)
theorem At.four {w : World} {b : Nat} {v0 v1 v2 v3 : Value} {T : TypeId} (h : At w b #[v0, v1, v2, v3] T) : w.cell? ⟨b, 0, none⟩ = some v0 ∧ w.cell? ⟨b, 1, none⟩ = some v1 ∧ w.cell? ⟨b, 2, none⟩ = some v2 ∧ w.cell? ⟨b, 3, none⟩ = some v3 := by
  have hc := fun j => cell_of_row w b j _ _ _ h
  refine ⟨?_, ?_, ?_, ?_⟩ <;> (rw [hc]; rfl)
theorem At.set0 {w : World} {b : Nat} {x0 x1 : Value} {T : TypeId} (h : At w b #[x0, x1] T) (v : Value) : At (w.setCell ⟨b, 0, none⟩ v) b #[v, x1] T := heap_setCell_same w b 0 _ _ v h
theorem At.set1 {w : World} {b : Nat} {x0 x1 : Value} {T : TypeId} (h : At w b #[x0, x1] T) (v : Value) : At (w.setCell ⟨b, 1, none⟩ v) b #[x0, v] T := heap_setCell_same w b 1 _ _ v h
theorem At.far {w : World} {b c j : Nat} {cs : Array Value} {T : TypeId} (h : At w b cs T) (hn : b ≠ c) (v : Value) : At (w.setCell ⟨c, j, none⟩ v) b cs T := by
  unfold At at h ⊢
  rw [Below.heap_setCell _ _ _ _ hn]
  exact h
/-- an answer that lies in a block. -/
theorem results_vec {fn : Func} {k : Nat} (h : fn.results = #[.cell k 25]) (tmps : Array Value) (W : World) (b : Nat) (hp : tmps[k]?.getD undef = .pointer (some ⟨b, 0, none⟩)) (v0 v1 : Value) (hA : At W b #[v0, v1] 25) :
    (results fn tmps).run Try.prog W = .ok (.agg #[v0, v1]) W := by
  obtain ⟨c0, c1⟩ := hA.two
  simp [results, h, hp, go_sem, c0, c1]
theorem bset {w W : World} (h : Below w.heap.size w W) {b : Nat} (hb : w.heap.size ≤ b) (j : Nat) (v : Value) : Below w.heap.size w (W.setCell ⟨b, j, none⟩ v) := h.setCell hb v

/-- a part of a way, cut to 'm' if the way is longer. -/
def slI (z x y m : Int) : Int := if m < lenI x y then stepI z (lenI x y) m else z
theorem sl_yes (z x y m : Int) (h : m < lenI x y) : slI z x y m = stepI z (lenI x y) m := by unfold slI; rw [if_pos h]
theorem sl_no (z x y m : Int) (h : ¬ m < lenI x y) : slI z x y m = z := by unfold slI; rw [if_neg h]

end Go.Proofs.Ythbncbdnpeglfaa.Sh
