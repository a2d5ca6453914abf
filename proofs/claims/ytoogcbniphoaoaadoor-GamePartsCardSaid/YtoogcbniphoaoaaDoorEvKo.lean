/- Keys that are gone through by a function: do they rise (layer 11, event). -/
import Derived.Test.YtoogcbniphoaoaaDoorEvIt
import Derived.Test.YtoogcbniphoaoaaDoorEvA
import Derived.Test.YtoogcbniphoaoaaDoorEvB
namespace Go.Proofs.YtoogcbniphoaoaaDoor.Ev
open Go.RowKit Go.Shelf
set_option linter.unusedVariables false
attribute [local go_sem] Oper.semAt_some

theorem Gr.grownBy {w w' : World} (h : Gr w w') : w.grownBy w' none := by
  obtain ⟨q, os, rfl⟩ := h
  exact ⟨rfl, rfl, rfl, by simp, fun k hk _ => Go.Sort.heap_grow_old _ _ hk⟩
theorem Gr.from {w w' : World} (h : Gr w w') (B : Nat) : KeepsFrom B w w' := KeepsFrom.of_grownBy h.grownBy (fun j e => by cases e)
theorem Gr.at {w w' : World} (h : Gr w w') {b : Nat} {cs : Array Value} {T : TypeId} (k : At w b cs T) : At w' b cs T := k.below h.below
theorem At.kept {W W' : World} {row : Option Nat} {B : Nat} {cs : Array Value} {t : TypeId} (h : At W B cs t) (hg : W.grownBy W' row) (hne : some B ≠ row) : At W' B cs t := (hg.block B h.lt hne).trans h
theorem at_own {β : Type} (B : Nat) (t : TypeId) (f : β → Array Value) : Own (fun s W => At W B (f s) t) := fun s X Y row hs hg hrow =>
  hs.kept hg (fun e' => by obtain ⟨o, ho, hc⟩ := hrow B e'.symm; rw [show X.heap[B]? = _ from hs] at ho; cases ho; cases hc)
theorem At.far {w : World} {b c j : Nat} {cs : Array Value} {T : TypeId} (h : At w b cs T) (hn : b ≠ c) (v : Value) : At (w.setCell ⟨c, j, none⟩ v) b cs T := by
  unfold At at h ⊢
  rw [Below.heap_setCell _ _ _ _ hn]
  exact h
/-- an answer that lies in a block. -/
theorem At.put1 {w : World} {b : Nat} {x0 : Value} {T : TypeId} (h : At w b #[x0] T) (v : Value) : At (w.setCell ⟨b, 0, none⟩ v) b #[v] T := heap_setCell_same w b 0 _ _ v h
theorem At.put4 {w : World} {b : Nat} {x0 x1 x2 x3 : Value} {T : TypeId} (h : At w b #[x0, x1, x2, x3] T) (v0 v1 v2 v3 : Value) : At ((((w.setCell ⟨b, 0, none⟩ v0).setCell ⟨b, 1, none⟩ v1).setCell ⟨b, 2, none⟩ v2).setCell ⟨b, 3, none⟩ v3) b #[v0, v1, v2, v3] T :=
  heap_setCell_same _ b 3 _ _ v3 (heap_setCell_same _ b 2 _ _ v2 (heap_setCell_same _ b 1 _ _ v1 (heap_setCell_same w b 0 _ _ v0 h)))

def zeroK : Ky := ⟨0, 0, 0, 0⟩
def lastK (l : List Ky) : Ky := l.getLast?.getD zeroK
theorem zero_lt {k : Ky} (h : keyB k = true) : ltK zeroK k := by
  unfold keyB inB at h
  simp at h
  unfold ltK zeroK
  simp
  omega
theorem last_snoc (l : List Ky) (x : Ky) : lastK (l ++ [x]) = x := by simp [lastK]
theorem ris_snoc {l : List Ky} {x : Ky} (h : risB l = true) (hx : keyB x = true) (hl : ltK (lastK l) x) : risB (l ++ [x]) = true := by
  unfold risB at h ⊢
  simp at h
  rw [List.all_append, decide_eq_true (up_snoc h.2 x fun y hy => by simpa [lastK, hy] using hl)]
  simp [hx]
  exact h.1
theorem ris_bad1 {l ks : List Ky} {x : Ky} (hp : l ++ [x] <+: ks) (hx : keyB x = false) : risB ks = false := by
  obtain ⟨t, rfl⟩ := hp
  unfold risB
  simp [hx]
theorem ris_bad2 {l ks : List Ky} {x : Ky} (hp : l ++ [x] <+: ks) (hx : keyB x = true) (hl : ¬ ltK (lastK l) x) : risB ks = false := by
  obtain ⟨t, rfl⟩ := hp
  unfold risB
  rw [decide_eq_false]
  · simp
  · intro hu
    unfold up at hu
    rw [List.pairwise_append] at hu
    cases h : l.getLast? with
    | none => exact hl (by simpa [lastK, h] using zero_lt hx)
    | some y => exact hl (by simpa [lastK, h] using up_last hu.1 h)

end Go.Proofs.YtoogcbniphoaoaaDoor.Ev
