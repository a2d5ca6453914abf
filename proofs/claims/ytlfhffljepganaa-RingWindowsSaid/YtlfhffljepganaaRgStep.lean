/- Steps of a region that draws its order, one at a time, and what the law of windows asks of frames. -/
import Derived.Test.YtlfhffljepganaaRgWindows
import Derived.Test.YtlfhffljepganaaRgFrames
import Derived.Deep.RegionHeld3
import Derived.Deep.RegionWith
namespace Go.Proofs.Ytlfhffljepganaa.Rg
open Go.RowKit
set_option linter.unusedVariables false

theorem takeW {P : Program} {ops : Array Oper} {Q : Exit → Act → World → Prop} {md : Region.Mode} {S : World → Prop} {i d : Nat} {oi : Oper} {v : Value} {fuel : Nat} {listed : Array Bool} {a : Act} {w : World} (hi : ops[i]? = some oi) (hd : oi.dst = some d)
    (hs : Region.noSelect ops = true) (hf : Region.free md ops listed i = true) (hr : (Region.ready md ops listed).contains i = true)
    (hQ : ∀ c a w, Q (.panic c) (a.put oi.dst v) w → Q (.panic c) a w) (hw : Region.wanted oi (yielded ops a.tmps) = true) (hy : ∀ w, S w → (execOp a.eval oi).run P w = .ok (.value v) w) (hS : S w)
    (h : wpAnyH P md ops Q S fuel (listed.setIfInBounds i true) (a.put (some d) v) w) : wpAnyH P md ops Q S (fuel + 1) listed a w :=
  wpAnyH_take hi hs hf hr hQ (.inl ⟨hw, hy⟩) hS (by rw [hd]; exact h)

theorem skipW {P : Program} {ops : Array Oper} {Q : Exit → Act → World → Prop} {md : Region.Mode} {S : World → Prop} {i d : Nat} {oi : Oper} {fuel : Nat} {listed : Array Bool} {a : Act} {w : World} (hi : ops[i]? = some oi) (hd : oi.dst = some d)
    (hs : Region.noSelect ops = true) (hf : Region.free md ops listed i = true) (hr : (Region.ready md ops listed).contains i = true)
    (hQ : ∀ c a w, Q (.panic c) (a.put oi.dst undef) w → Q (.panic c) a w) (hw : Region.wanted oi (yielded ops a.tmps) = false) (hS : S w)
    (h : wpAnyH P md ops Q S fuel (listed.setIfInBounds i true) (a.put (some d) undef) w) : wpAnyH P md ops Q S (fuel + 1) listed a w :=
  wpAnyH_take hi hs hf hr hQ (.inr ⟨hw, rfl⟩) hS (by rw [hd]; exact h)

theorem monoW {P : Program} {ops : Array Oper} {Q : Exit → Act → World → Prop} {md : Region.Mode} {S S' : World → Prop} (hs : ∀ w, S' w → S w) : ∀ (fuel : Nat) (listed : Array Bool) (a : Act) (w : World), wpAnyH P md ops Q S' fuel listed a w → wpAnyH P md ops Q S fuel listed a w
  | 0, _, _, _, h => h
  | fuel + 1, _, _, _, h => ⟨h.1, fun i hi => wpOp_mono (fun a' w' h' => ⟨hs w' h'.1, monoW hs fuel _ a' w' h'.2⟩) (h.2 i hi)⟩

theorem WSrc.of {w : World} {n₀ t e b size cap : Nat} {f : Int} {ao : Option Addr} {l : List (Int × Int)} (h : Win w n₀ t e b size f ao cap l) : WSrc w.heap.size w (some ⟨b, 0, none⟩) (l.map Prod.fst) := by
  refine .inr ⟨b, ao, cap, (match ao with | some a => a.block | none => 0), rfl, h.lt, by simpa using h.cell 2, fun j hj => ?_⟩
  have hj' : j < l.length := by simpa using hj
  obtain ⟨g, rfl, hg, h1, h2⟩ := win_cell h.row j l[j] (List.getElem?_eq_getElem hj')
  exact ⟨rfl, hg, by simpa [hj'] using h1, _, h2⟩

/-- Frames of the program's window: a list of its own with the frames. -/
theorem frames_w {w₀ w : World} {b m size : Nat} {f f' : Int} {l k : List (Int × Int)} (h : WBoth w₀ w b m size f l f' k) (hl : l.length ≤ 9000000) :
    Calls Try.prog 28 #[.pointer (some ⟨b, 0, none⟩)] w fun e w' => ∃ ao cap, e = .returned (.slice ao l.length cap) ∧ w'.ownsRow w.heap.size 3 1 (.slice ao l.length cap) l.length (ints (l.map Prod.fst)) ∧ Below w.heap.size w w' := by
  obtain ⟨ao, cap, ao', cap', p⟩ := h.two
  have := callsIn_wide.1 (frames_in (some ⟨b, 0, none⟩) (l.map Prod.fst) (by simpa using hl) w (WSrc.of p.win))
  simpa using this

end Go.Proofs.Ytlfhffljepganaa.Rg
