/- Keys, events and lists of them that come in: what one that is read as data holds in its cells (layer 11, event). -/
import Derived.Test.YtfkbkfaiplhehaaEvWorld
import Derived.ProofKit
import Derived.OpenShut
import Derived.Carry
import Derived.Deep.Slices
import Derived.Deep.Fields
namespace Go.Proofs.Ytfkbkfaiplhehaa.Ev
open Go.RowKit Go.ChangeShapes Go.WideShapes Go.ChangeAt Go.Deep
set_option linter.unusedVariables false

theorem cells_int : Try.prog.cellsOf 3 = 1 := by kernel_rfl
theorem cells_key : Try.prog.cellsOf 24 = 4 := by kernel_rfl
theorem cells_event : Try.prog.cellsOf 31 = 9 := by kernel_rfl
theorem laid : laidOutB Try.prog = true := by kernel_rfl

set_option maxRecDepth 100000 in
theorem key_cells {H : Type} {enc : TypeId × Value → H} {W : World} {spare : Nat → Bool} {held : Bool} {fuel : Nat} {cs : List Value} {y : DataW H × List MemPlace}
    (hf : DataW.trod enc Try.prog W 0 spare held fuel 24 cs = some y) (hl : cs.length = 4) : ∃ k : Ky, cs = kcs k := by
  obtain ⟨xs, n, _, _, _, hxl, hg⟩ := DataW.trod_struct Try.underlying24 hf
  match cs, hl with
  | [c0, c1, c2, c3], _ =>
    match xs, hxl with
    | [x0, x1, x2, x3], _ =>
      have g0 : DataW.trod enc Try.prog W 0 spare held n 3 [c0] = some x0 := by simpa [cells_int] using hg 0 _ rfl
      have g1 : DataW.trod enc Try.prog W 0 spare held n 3 [c1] = some x1 := by simpa [cells_int] using hg 1 _ rfl
      have g2 : DataW.trod enc Try.prog W 0 spare held n 3 [c2] = some x2 := by simpa [cells_int] using hg 2 _ rfl
      have g3 : DataW.trod enc Try.prog W 0 spare held n 3 [c3] = some x3 := by simpa [cells_int] using hg 3 _ rfl
      obtain ⟨k0, e0, _, w0⟩ := DataW.trod_int (k := .i64) Try.underlying3 g0
      obtain ⟨k1, e1, _, w1⟩ := DataW.trod_int (k := .i64) Try.underlying3 g1
      obtain ⟨k2, e2, _, w2⟩ := DataW.trod_int (k := .i64) Try.underlying3 g2
      obtain ⟨k3, e3, _, w3⟩ := DataW.trod_int (k := .i64) Try.underlying3 g3
      injection e0 with e0; injection e1 with e1; injection e2 with e2; injection e3 with e3
      subst e0 e1 e2 e3
      exact ⟨⟨k0, k1, k2, k3⟩, rfl⟩
set_option maxRecDepth 100000 in
theorem event_cells {H : Type} {enc : TypeId × Value → H} {W : World} {spare : Nat → Bool} {held : Bool} {fuel : Nat} {cs : List Value} {y : DataW H × List MemPlace}
    (hf : DataW.trod enc Try.prog W 0 spare held fuel 31 cs = some y) (hl : cs.length = 9) : ∃ x : Ev, cs = ecs x := by
  obtain ⟨xs, n, _, _, _, hxl, hg⟩ := DataW.trod_struct Try.underlying31 hf
  match cs, hl with
  | [c0, c1, c2, c3, c4, c5, c6, c7, c8], _ =>
    match xs, hxl with
    | [x0, x1, x2, x3, x4, x5], _ =>
      have g0 : DataW.trod enc Try.prog W 0 spare held n 24 [c0, c1, c2, c3] = some x0 := by simpa [cells_key] using hg 0 _ rfl
      have g1 : DataW.trod enc Try.prog W 0 spare held n 3 [c4] = some x1 := by simpa [cells_int] using hg 1 _ rfl
      have g2 : DataW.trod enc Try.prog W 0 spare held n 3 [c5] = some x2 := by simpa [cells_int] using hg 2 _ rfl
      have g3 : DataW.trod enc Try.prog W 0 spare held n 3 [c6] = some x3 := by simpa [cells_int] using hg 3 _ rfl
      have g4 : DataW.trod enc Try.prog W 0 spare held n 3 [c7] = some x4 := by simpa [cells_int] using hg 4 _ rfl
      have g5 : DataW.trod enc Try.prog W 0 spare held n 3 [c8] = some x5 := by simpa [cells_int] using hg 5 _ rfl
      obtain ⟨k, e0⟩ := key_cells g0 rfl
      obtain ⟨k1, e1, _, w1⟩ := DataW.trod_int (k := .i64) Try.underlying3 g1
      obtain ⟨k2, e2, _, w2⟩ := DataW.trod_int (k := .i64) Try.underlying3 g2
      obtain ⟨k3, e3, _, w3⟩ := DataW.trod_int (k := .i64) Try.underlying3 g3
      obtain ⟨k4, e4, _, w4⟩ := DataW.trod_int (k := .i64) Try.underlying3 g4
      obtain ⟨k5, e5, _, w5⟩ := DataW.trod_int (k := .i64) Try.underlying3 g5
      injection e1 with e1; injection e2 with e2; injection e3 with e3; injection e4 with e4; injection e5 with e5
      subst e1 e2 e3 e4 e5
      exact ⟨⟨k, k1, k2, k3, k4, k5⟩, by
        show [c0, c1, c2, c3] ++ [_, _, _, _, _] = _
        rw [e0]; rfl⟩

set_option maxRecDepth 100000 in
/-- a key that came in. -/
theorem open_key {H : Type} {enc : TypeId × Value → H} {W : World} {r : Reach} {b0 : Nat} {spare : Nat → Bool} {held : Bool} {v : Value} {d : DataW H} {p : List MemPlace}
    (hv : Value.okWide Try.prog W r b0 24 v) (h : DataW.Trod enc Try.prog W 0 spare held 24 v d p) : ∃ k : Ky, v = kv k ∧ True := by
  obtain ⟨cs, rfl, hsz⟩ := okWide_struct Try.underlying24 hv
  rw [cells_key] at hsz
  obtain ⟨fuel, hf⟩ := h
  obtain ⟨k, e⟩ := key_cells hf (by simpa [Value.cells] using hsz)
  refine ⟨k, ?_, trivial⟩
  have e2 : cs = (kcs k).toArray := by
    apply Array.ext'
    simpa [Value.cells] using e
  rw [e2]
set_option maxRecDepth 100000 in
/-- an event that came in. -/
theorem open_event {H : Type} {enc : TypeId × Value → H} {W : World} {r : Reach} {b0 : Nat} {spare : Nat → Bool} {held : Bool} {v : Value} {d : DataW H} {p : List MemPlace}
    (hv : Value.okWide Try.prog W r b0 31 v) (h : DataW.Trod enc Try.prog W 0 spare held 31 v d p) : ∃ x : Ev, v = ev x ∧ True := by
  obtain ⟨cs, rfl, hsz⟩ := okWide_struct Try.underlying31 hv
  rw [cells_event] at hsz
  obtain ⟨fuel, hf⟩ := h
  obtain ⟨k, e⟩ := event_cells hf (by simpa [Value.cells] using hsz)
  refine ⟨k, ?_, trivial⟩
  have e2 : cs = (ecs k).toArray := by
    apply Array.ext'
    simpa [Value.cells] using e
  rw [e2]

/-- a list of things of k cells that came in. -/
theorem sl_of {α : Type} [Inhabited α] {enc' : α → List Value} {k : Nat} (h0 : 0 < k) (hk : ∀ x, (enc' x).length = k) {t e : TypeId} (ht : Try.prog.underlying t = some (.slice e)) (he : Try.prog.cellsOf e = k)
    {H : Type} {enc : TypeId × Value → H} {W : World} {spare : Nat → Bool} {held : Bool} {ao : Option Addr} {len cap : Nat} {d : DataW H} {ps : List MemPlace}
    (hel : ∀ (n : Nat) (cs : List Value) (y : DataW H × List MemPlace), DataW.trod enc Try.prog W 0 spare held n e cs = some y → cs.length = k → ∃ x, cs = enc' x)
    (h : DataW.Trod enc Try.prog W 0 spare held t (.slice ao len cap) d ps) : ∃ l, Sl enc' k W (.slice ao len cap) l := by
  obtain ⟨fuel, hf⟩ := h
  rcases open_slice ht hf with ⟨h0, _⟩ | ⟨a, len', cap', m, n, D, Pl, e0, _, hl, hcm, hm, _, hx⟩
  · simp [Value.cells] at h0
    obtain ⟨rfl, rfl, rfl⟩ := h0
    exact ⟨[], Sl.nil enc' k W⟩
  · simp [Value.cells] at e0
    obtain ⟨rfl, rfl, rfl⟩ := e0
    have hlm : len ≤ m := by rw [hm]; split <;> omega
    rw [he] at hx
    have hX : ∀ j, j < len → ∃ x, ∀ i (hi : i < (enc' x).length), W.cell? (a.add (j * k + i)) = some (enc' x)[i] := by
      intro j hj
      obtain ⟨cs, h1, h2⟩ := hx j (by omega)
      obtain ⟨_, hlen, hcell⟩ := World.cells?_some h1
      obtain ⟨x, rfl⟩ := hel n cs _ h2 hlen
      refine ⟨x, fun i hi => ?_⟩
      have := hcell i (by rw [← hk x]; exact hi)
      rw [add_add] at this
      rw [this, List.getElem?_eq_getElem hi]
    refine ⟨(List.range len).map fun j => if hj : j < len then Classical.choose (hX j hj) else default, some a, len, cap, rfl, by simp, hl, by unfold maxLen at hcm; omega, fun hp => ?_⟩
    have hp' : 0 < len := by simpa using hp
    obtain ⟨x0, hx0⟩ := hX 0 hp'
    have h00 := hx0 0 (by rw [hk]; exact h0)
    have hs : a.spot = none := by
      have := World.cell?_spot h00
      simpa [Addr.add] using this
    obtain ⟨b, o, sp⟩ := a
    obtain rfl : sp = none := hs
    refine ⟨b, o, rfl, World.block_lt_of_cell? W _ (by simpa [Addr.add] using h00), fun j hj i v hv => ?_⟩
    have hj' : j < len := by simpa using hj
    simp only [List.getElem_map, List.getElem_range, dif_pos hj'] at hv
    have hc := Classical.choose_spec (hX j hj')
    obtain ⟨hi, rfl⟩ := List.getElem?_eq_some_iff.1 hv
    have := hc i hi
    rw [Addr.add_lit] at this
    rw [Nat.add_assoc]
    exact this
theorem evs_of {H : Type} {enc : TypeId × Value → H} {W : World} {spare : Nat → Bool} {held : Bool} {ao : Option Addr} {len cap : Nat} {d : DataW H} {ps : List MemPlace}
    (h : DataW.Trod enc Try.prog W 0 spare held 22 (.slice ao len cap) d ps) : ∃ l, Evs W (.slice ao len cap) l :=
  sl_of (enc' := ecs) (k := 9) (by decide) (fun _ => rfl) Try.underlying22 cells_event (fun n cs y h1 h2 => event_cells h1 h2) h
theorem kys_of {H : Type} {enc : TypeId × Value → H} {W : World} {spare : Nat → Bool} {held : Bool} {ao : Option Addr} {len cap : Nat} {d : DataW H} {ps : List MemPlace}
    (h : DataW.Trod enc Try.prog W 0 spare held 36 (.slice ao len cap) d ps) : ∃ l, Kys W (.slice ao len cap) l :=
  sl_of (enc' := kcs) (k := 4) (by decide) (fun _ => rfl) Try.underlying36 cells_key (fun n cs y h1 h2 => key_cells h1 h2) h

end Go.Proofs.Ytfkbkfaiplhehaa.Ev
