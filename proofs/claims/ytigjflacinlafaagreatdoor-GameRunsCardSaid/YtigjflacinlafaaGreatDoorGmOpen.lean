/- Keys, events and lists of them that come in: what one that is read as data holds in its cells (layer 11, event). -/
/- Places, ways and boxes that come in: what one that is read as data holds in its cells (layer 10, shape). -/
/- States and inputs that come in (layer 12, game). -/
/- Package game's tables, out of what they read as (layer 12, game). -/
import Derived.Test.YtigjflacinlafaaGreatDoorJ1
import Derived.ProofKit
import Derived.OpenShut
import Derived.Carry
import Derived.Deep.Slices
import Derived.Deep.Fields
import Derived.Test.YtigjflacinlafaaGreatDoorShA
import Derived.Test.YtigjflacinlafaaGreatDoorGmRun
import Derived.Test.YtigjflacinlafaaGreatDoorRows
import Derived.LaidMore
import Derived.Stop.Joined
namespace Go.Proofs.YtigjflacinlafaaGreatDoor.Ev
open Go.RowKit Go.ChangeShapes Go.WideShapes Go.ChangeAt Go.Deep
set_option linter.unusedVariables false

theorem cells_int : Tryz.prog.cellsOf 3 = 1 := by kernel_rfl
theorem cells_key : Tryz.prog.cellsOf 51 = 4 := by kernel_rfl
theorem cells_event : Tryz.prog.cellsOf 53 = 9 := by kernel_rfl
theorem laid : laidOutB Tryz.prog = true := by kernel_rfl

set_option maxRecDepth 100000 in
theorem key_cells {H : Type} {enc : TypeId × Value → H} {W : World} {spare : Nat → Bool} {held : Bool} {fuel : Nat} {cs : List Value} {y : DataW H × List MemPlace}
 (hf : DataW.trod enc Tryz.prog W 0 spare held fuel 51 cs = some y) (hl : cs.length = 4) : ∃ k : Ky, cs = kcs k := by
 obtain ⟨xs, n, _, _, _, hxl, hg⟩ := DataW.trod_struct Tryz.underlying51 hf
 match cs, hl with
 | [c0, c1, c2, c3], _ =>
  match xs, hxl with
  | [x0, x1, x2, x3], _ =>
   have g0 : DataW.trod enc Tryz.prog W 0 spare held n 3 [c0] = some x0 := by simpa [cells_int] using hg 0 _ rfl
   have g1 : DataW.trod enc Tryz.prog W 0 spare held n 3 [c1] = some x1 := by simpa [cells_int] using hg 1 _ rfl
   have g2 : DataW.trod enc Tryz.prog W 0 spare held n 3 [c2] = some x2 := by simpa [cells_int] using hg 2 _ rfl
   have g3 : DataW.trod enc Tryz.prog W 0 spare held n 3 [c3] = some x3 := by simpa [cells_int] using hg 3 _ rfl
   obtain ⟨k0, e0, _, w0⟩ := DataW.trod_int (k := .i64) Tryz.underlying3 g0
   obtain ⟨k1, e1, _, w1⟩ := DataW.trod_int (k := .i64) Tryz.underlying3 g1
   obtain ⟨k2, e2, _, w2⟩ := DataW.trod_int (k := .i64) Tryz.underlying3 g2
   obtain ⟨k3, e3, _, w3⟩ := DataW.trod_int (k := .i64) Tryz.underlying3 g3
   injection e0 with e0; injection e1 with e1; injection e2 with e2; injection e3 with e3
   subst e0 e1 e2 e3
   exact ⟨⟨k0, k1, k2, k3⟩, rfl⟩
set_option maxRecDepth 100000 in
theorem event_cells {H : Type} {enc : TypeId × Value → H} {W : World} {spare : Nat → Bool} {held : Bool} {fuel : Nat} {cs : List Value} {y : DataW H × List MemPlace}
 (hf : DataW.trod enc Tryz.prog W 0 spare held fuel 53 cs = some y) (hl : cs.length = 9) : ∃ x : Ev, cs = ecs x := by
 obtain ⟨xs, n, _, _, _, hxl, hg⟩ := DataW.trod_struct Tryz.underlying53 hf
 match cs, hl with
 | [c0, c1, c2, c3, c4, c5, c6, c7, c8], _ =>
  match xs, hxl with
  | [x0, x1, x2, x3, x4, x5], _ =>
   have g0 : DataW.trod enc Tryz.prog W 0 spare held n 51 [c0, c1, c2, c3] = some x0 := by simpa [cells_key] using hg 0 _ rfl
   have g1 : DataW.trod enc Tryz.prog W 0 spare held n 3 [c4] = some x1 := by simpa [cells_int] using hg 1 _ rfl
   have g2 : DataW.trod enc Tryz.prog W 0 spare held n 3 [c5] = some x2 := by simpa [cells_int] using hg 2 _ rfl
   have g3 : DataW.trod enc Tryz.prog W 0 spare held n 3 [c6] = some x3 := by simpa [cells_int] using hg 3 _ rfl
   have g4 : DataW.trod enc Tryz.prog W 0 spare held n 3 [c7] = some x4 := by simpa [cells_int] using hg 4 _ rfl
   have g5 : DataW.trod enc Tryz.prog W 0 spare held n 3 [c8] = some x5 := by simpa [cells_int] using hg 5 _ rfl
   obtain ⟨k, e0⟩ := key_cells g0 rfl
   obtain ⟨k1, e1, _, w1⟩ := DataW.trod_int (k := .i64) Tryz.underlying3 g1
   obtain ⟨k2, e2, _, w2⟩ := DataW.trod_int (k := .i64) Tryz.underlying3 g2
   obtain ⟨k3, e3, _, w3⟩ := DataW.trod_int (k := .i64) Tryz.underlying3 g3
   obtain ⟨k4, e4, _, w4⟩ := DataW.trod_int (k := .i64) Tryz.underlying3 g4
   obtain ⟨k5, e5, _, w5⟩ := DataW.trod_int (k := .i64) Tryz.underlying3 g5
   injection e1 with e1; injection e2 with e2; injection e3 with e3; injection e4 with e4; injection e5 with e5
   subst e1 e2 e3 e4 e5
   exact ⟨⟨k, k1, k2, k3, k4, k5⟩, by
    show [c0, c1, c2, c3] ++ [_, _, _, _, _] = _
    rw [e0]; rfl⟩

set_option maxRecDepth 100000 in
/-- a key that came in. -/
theorem open_key {H : Type} {enc : TypeId × Value → H} {W : World} {r : Reach} {b0 : Nat} {spare : Nat → Bool} {held : Bool} {v : Value} {d : DataW H} {p : List MemPlace}
 (hv : Value.okWide Tryz.prog W r b0 51 v) (h : DataW.Trod enc Tryz.prog W 0 spare held 51 v d p) : ∃ k : Ky, v = kv k ∧ True := by
 obtain ⟨cs, rfl, hsz⟩ := okWide_struct Tryz.underlying51 hv
 rw [cells_key] at hsz
 obtain ⟨fuel, hf⟩ := h
 obtain ⟨k, e⟩ := key_cells hf (by simpa [Value.cells] using hsz)
 refine ⟨k, ?_, trivial⟩
 have e2 : cs = (kcs k).toArray := by
  apply Array.ext'
  simpa [Value.cells] using e
 rw [e2]
set_option maxRecDepth 100000 in
/-- an event that came in. -/
theorem open_event {H : Type} {enc : TypeId × Value → H} {W : World} {r : Reach} {b0 : Nat} {spare : Nat → Bool} {held : Bool} {v : Value} {d : DataW H} {p : List MemPlace}
 (hv : Value.okWide Tryz.prog W r b0 53 v) (h : DataW.Trod enc Tryz.prog W 0 spare held 53 v d p) : ∃ x : Ev, v = ev x ∧ True := by
 obtain ⟨cs, rfl, hsz⟩ := okWide_struct Tryz.underlying53 hv
 rw [cells_event] at hsz
 obtain ⟨fuel, hf⟩ := h
 obtain ⟨k, e⟩ := event_cells hf (by simpa [Value.cells] using hsz)
 refine ⟨k, ?_, trivial⟩
 have e2 : cs = (ecs k).toArray := by
  apply Array.ext'
  simpa [Value.cells] using e
 rw [e2]

/-- a list of things of k cells that came in. -/
theorem sl_of {α : Type} [Inhabited α] {enc' : α → List Value} {k : Nat} (h0 : 0 < k) (hk : ∀ x, (enc' x).length = k) {t e : TypeId} (ht : Tryz.prog.underlying t = some (.slice e)) (he : Tryz.prog.cellsOf e = k)
 {H : Type} {enc : TypeId × Value → H} {W : World} {spare : Nat → Bool} {held : Bool} {ao : Option Addr} {len cap : Nat} {d : DataW H} {ps : List MemPlace}
 (hel : ∀ (n : Nat) (cs : List Value) (y : DataW H × List MemPlace), DataW.trod enc Tryz.prog W 0 spare held n e cs = some y → cs.length = k → ∃ x, cs = enc' x)
 (h : DataW.Trod enc Tryz.prog W 0 spare held t (.slice ao len cap) d ps) : ∃ l, Sl enc' k W (.slice ao len cap) l := by
 obtain ⟨fuel, hf⟩ := h
 rcases open_slice ht hf with ⟨h0, _⟩ | ⟨a, len', cap', m, n, D, Pl, e0, _, hl, hcm, hm, _, hx⟩
 · simp [Value.cells] at h0
   obtain ⟨rfl, rfl, rfl⟩ := h0
   exact ⟨[], Sl.nil enc' k W⟩
 · simp [Value.cells] at e0
   obtain ⟨rfl, rfl, rfl⟩ := e0
   have hlm : len ≤ m := by rw [hm]; split <;> omega
   rw [he] at hx
   have hX : ∀ j, j < len → ∃ x, ∀ i (hi : i < (enc' x).length), W.cell? (a.add (j * k + i)) = some (enc' x)[i] := by
    intro j hj
    obtain ⟨cs, h1, h2⟩ := hx j (by omega)
    obtain ⟨_, hlen, hcell⟩ := World.cells?_some h1
    obtain ⟨x, rfl⟩ := hel n cs _ h2 hlen
    refine ⟨x, fun i hi => ?_⟩
    have := hcell i (by rw [← hk x]; exact hi)
    rw [add_add] at this
    rw [this, List.getElem?_eq_getElem hi]
   refine ⟨(List.range len).map fun j => if hj : j < len then Classical.choose (hX j hj) else default, some a, len, cap, rfl, by simp, hl, by unfold maxLen at hcm; omega, fun hp => ?_⟩
   have hp' : 0 < len := by simpa using hp
   obtain ⟨x0, hx0⟩ := hX 0 hp'
   have h00 := hx0 0 (by rw [hk]; exact h0)
   have hs : a.spot = none := by
    have := World.cell?_spot h00
    simpa [Addr.add] using this
   obtain ⟨b, o, sp⟩ := a
   obtain rfl : sp = none := hs
   refine ⟨b, o, rfl, World.block_lt_of_cell? W _ (by simpa [Addr.add] using h00), fun j hj i v hv => ?_⟩
   have hj' : j < len := by simpa using hj
   simp only [List.getElem_map, List.getElem_range, dif_pos hj'] at hv
   have hc := Classical.choose_spec (hX j hj')
   obtain ⟨hi, rfl⟩ := List.getElem?_eq_some_iff.1 hv
   have := hc i hi
   rw [Addr.add_lit] at this
   rw [Nat.add_assoc]
   exact this

theorem evs_of {H : Type} {enc : TypeId × Value → H} {W : World} {spare : Nat → Bool} {held : Bool} {ao : Option Addr} {len cap : Nat} {d : DataW H} {ps : List MemPlace}
 (h : DataW.Trod enc Tryz.prog W 0 spare held 36 (.slice ao len cap) d ps) : ∃ l, Evs W (.slice ao len cap) l :=
 sl_of (enc' := ecs) (k := 9) (by decide) (fun _ => rfl) Tryz.underlying36 cells_event (fun n cs y h1 h2 => event_cells h1 h2) h

end Go.Proofs.YtigjflacinlafaaGreatDoor.Ev

namespace Go.Proofs.YtigjflacinlafaaGreatDoor.Sh
open Go.RowKit Go.ChangeShapes Go.WideShapes Go.ChangeAt Go.Deep
set_option linter.unusedVariables false

set_option maxRecDepth 100000
theorem cells_fix : Tryz.prog.cellsOf 25 = 1 := by kernel_rfl
theorem cells_vec : Tryz.prog.cellsOf 27 = 2 := by kernel_rfl
theorem cells_box : Tryz.prog.cellsOf 62 = 4 := by kernel_rfl
theorem laid : laidOutB Tryz.prog = true := by kernel_rfl

theorem vec_cells {H : Type} {enc : TypeId × Value → H} {W : World} {spare : Nat → Bool} {held : Bool} {fuel : Nat} {cs : List Value} {y : DataW H × List MemPlace}
 (hf : DataW.trod enc Tryz.prog W 0 spare held fuel 27 cs = some y) (hl : cs.length = 2) : ∃ x : Int × Int, cs = [.int .i32 x.1, .int .i32 x.2] ∧ In32 x.1 ∧ In32 x.2 := by
 obtain ⟨xs, n, _, _, _, hxl, hg⟩ := DataW.trod_struct Tryz.underlying27 hf
 match cs, hl with
 | [c0, c1], _ =>
  match xs, hxl with
  | [x0, x1], _ =>
   have g0 : DataW.trod enc Tryz.prog W 0 spare held n 25 [c0] = some x0 := by simpa [cells_fix] using hg 0 _ rfl
   have g1 : DataW.trod enc Tryz.prog W 0 spare held n 25 [c1] = some x1 := by simpa [cells_fix] using hg 1 _ rfl
   obtain ⟨k0, e0, _, w0⟩ := DataW.trod_int (k := .i32) Tryz.underlying25 g0
   obtain ⟨k1, e1, _, w1⟩ := DataW.trod_int (k := .i32) Tryz.underlying25 g1
   injection e0 with e0; injection e1 with e1
   subst e0 e1
   exact ⟨(k0, k1), rfl, bounds_i32 w0, bounds_i32 w1⟩

theorem box_cells {H : Type} {enc : TypeId × Value → H} {W : World} {spare : Nat → Bool} {held : Bool} {fuel : Nat} {cs : List Value} {y : DataW H × List MemPlace}
 (hf : DataW.trod enc Tryz.prog W 0 spare held fuel 62 cs = some y) (hl : cs.length = 4) : ∃ x : (Int × Int) × (Int × Int), cs = [.int .i32 x.1.1, .int .i32 x.1.2, .int .i32 x.2.1, .int .i32 x.2.2] ∧ In32 x.1.1 ∧ In32 x.1.2 ∧ In32 x.2.1 ∧ In32 x.2.2 := by
 obtain ⟨xs, n, _, _, _, hxl, hg⟩ := DataW.trod_struct Tryz.underlying62 hf
 match cs, hl with
 | [c0, c1, c2, c3], _ =>
  match xs, hxl with
  | [x0, x1], _ =>
   have g0 : DataW.trod enc Tryz.prog W 0 spare held n 27 [c0, c1] = some x0 := by simpa [cells_vec] using hg 0 _ rfl
   have g1 : DataW.trod enc Tryz.prog W 0 spare held n 27 [c2, c3] = some x1 := by simpa [cells_vec] using hg 1 _ rfl
   obtain ⟨u, e0, a0, a1⟩ := vec_cells g0 rfl
   obtain ⟨v, e1, b0, b1⟩ := vec_cells g1 rfl
   injection e0 with e00 e01; injection e01 with e01; injection e1 with e10 e11; injection e11 with e11
   subst e00 e01 e10 e11
   exact ⟨(u, v), rfl, a0, a1, b0, b1⟩

/-- a place that came in. -/
theorem open_vec {H : Type} {enc : TypeId × Value → H} {W : World} {r : Reach} {b0 : Nat} {spare : Nat → Bool} {held : Bool} {v : Value} {d : DataW H} {p : List MemPlace}
 (hv : Value.okWide Tryz.prog W r b0 27 v) (h : DataW.Trod enc Tryz.prog W 0 spare held 27 v d p) : ∃ x : Int × Int, v = vec x.1 x.2 ∧ In32 x.1 ∧ In32 x.2 := by
 obtain ⟨cs, rfl, hsz⟩ := okWide_struct Tryz.underlying27 hv
 rw [cells_vec] at hsz
 obtain ⟨fuel, hf⟩ := h
 obtain ⟨x, e, hx⟩ := vec_cells hf (by simpa [Value.cells] using hsz)
 refine ⟨x, ?_, hx⟩
 have e2 : cs = #[.int .i32 x.1, .int .i32 x.2] := by
  apply Array.ext'
  simpa [Value.cells] using e
 rw [e2]

/-- a box that came in. -/
theorem open_box {H : Type} {enc : TypeId × Value → H} {W : World} {r : Reach} {b0 : Nat} {spare : Nat → Bool} {held : Bool} {v : Value} {d : DataW H} {p : List MemPlace}
 (hv : Value.okWide Tryz.prog W r b0 62 v) (h : DataW.Trod enc Tryz.prog W 0 spare held 62 v d p) : ∃ x : (Int × Int) × (Int × Int), v = box x.1.1 x.1.2 x.2.1 x.2.2 ∧ In32 x.1.1 ∧ In32 x.1.2 ∧ In32 x.2.1 ∧ In32 x.2.2 := by
 obtain ⟨cs, rfl, hsz⟩ := okWide_struct Tryz.underlying62 hv
 rw [cells_box] at hsz
 obtain ⟨fuel, hf⟩ := h
 obtain ⟨x, e, hx⟩ := box_cells hf (by simpa [Value.cells] using hsz)
 refine ⟨x, ?_, hx⟩
 have e2 : cs = #[.int .i32 x.1.1, .int .i32 x.1.2, .int .i32 x.2.1, .int .i32 x.2.2] := by
  apply Array.ext'
  simpa [Value.cells] using e
 rw [e2]

end Go.Proofs.YtigjflacinlafaaGreatDoor.Sh

namespace Go.Proofs.YtigjflacinlafaaGreatDoor.Gm
open Go.RowKit Go.ChangeShapes Go.WideShapes Go.ChangeAt Go.Deep
open Go.Proofs.YtigjflacinlafaaGreatDoor.Sh (In32)
set_option linter.unusedVariables false

set_option maxRecDepth 100000
theorem cells_u32 : Tryz.prog.cellsOf 22 = 1 := by kernel_rfl
theorem cells_u8 : Tryz.prog.cellsOf 5 = 1 := by kernel_rfl
theorem cells_pls : Tryz.prog.cellsOf 30 = 20 := by kernel_rfl
theorem cells_shs : Tryz.prog.cellsOf 33 = 36 := by kernel_rfl
theorem cells_state : Tryz.prog.cellsOf 35 = 60 := by kernel_rfl
theorem cells_ins : Tryz.prog.cellsOf 41 = 2 := by kernel_rfl

theorem player_cells {H : Type} {enc : TypeId × Value → H} {W : World} {spare : Nat → Bool} {held : Bool} {fuel : Nat} {cs : List Value} {y : DataW H × List MemPlace}
 (hf : DataW.trod enc Tryz.prog W 0 spare held fuel 29 cs = some y) (hl : cs.length = 10) : ∃ p : Pl, cs = plC p ∧ tyP p := by
 obtain ⟨xs, n, _, _, _, hxl, hg⟩ := DataW.trod_struct Tryz.underlying29 hf
 match cs, hl with
 | [c0, c1, c2, c3, c4, c5, c6, c7, c8, c9], _ =>
  match xs, hxl with
  | [x0, x1, x2, x3, x4, x5, x6, x7], _ =>
   have g0 : DataW.trod enc Tryz.prog W 0 spare held n 27 [c0, c1] = some x0 := by simpa [Sh.cells_vec] using hg 0 _ rfl
   have g1 : DataW.trod enc Tryz.prog W 0 spare held n 27 [c2, c3] = some x1 := by simpa [Sh.cells_vec] using hg 1 _ rfl
   have g2 : DataW.trod enc Tryz.prog W 0 spare held n 3 [c4] = some x2 := by simpa [Ev.cells_int] using hg 2 _ rfl
   have g3 : DataW.trod enc Tryz.prog W 0 spare held n 3 [c5] = some x3 := by simpa [Ev.cells_int] using hg 3 _ rfl
   have g4 : DataW.trod enc Tryz.prog W 0 spare held n 3 [c6] = some x4 := by simpa [Ev.cells_int] using hg 4 _ rfl
   have g5 : DataW.trod enc Tryz.prog W 0 spare held n 3 [c7] = some x5 := by simpa [Ev.cells_int] using hg 5 _ rfl
   have g6 : DataW.trod enc Tryz.prog W 0 spare held n 3 [c8] = some x6 := by simpa [Ev.cells_int] using hg 6 _ rfl
   have g7 : DataW.trod enc Tryz.prog W 0 spare held n 3 [c9] = some x7 := by simpa [Ev.cells_int] using hg 7 _ rfl
   obtain ⟨u, e0, a0, a1⟩ := Sh.vec_cells g0 rfl
   obtain ⟨v, e1, b0, b1⟩ := Sh.vec_cells g1 rfl
   obtain ⟨k2, e2, _, _⟩ := DataW.trod_int (k := .i64) Tryz.underlying3 g2
   obtain ⟨k3, e3, _, _⟩ := DataW.trod_int (k := .i64) Tryz.underlying3 g3
   obtain ⟨k4, e4, _, _⟩ := DataW.trod_int (k := .i64) Tryz.underlying3 g4
   obtain ⟨k5, e5, _, _⟩ := DataW.trod_int (k := .i64) Tryz.underlying3 g5
   obtain ⟨k6, e6, _, _⟩ := DataW.trod_int (k := .i64) Tryz.underlying3 g6
   obtain ⟨k7, e7, _, _⟩ := DataW.trod_int (k := .i64) Tryz.underlying3 g7
   injection e0 with e00 e01; injection e01 with e01; injection e1 with e10 e11; injection e11 with e11
   injection e2 with e2; injection e3 with e3; injection e4 with e4; injection e5 with e5; injection e6 with e6; injection e7 with e7
   subst e00 e01 e10 e11 e2 e3 e4 e5 e6 e7
   exact ⟨⟨u.1, u.2, v.1, v.2, k2, k3, k4, k5, k6, k7⟩, rfl, a0, a1, b0, b1⟩
theorem shot_cells {H : Type} {enc : TypeId × Value → H} {W : World} {spare : Nat → Bool} {held : Bool} {fuel : Nat} {cs : List Value} {y : DataW H × List MemPlace}
 (hf : DataW.trod enc Tryz.prog W 0 spare held fuel 32 cs = some y) (hl : cs.length = 6) : ∃ x : Bu, cs = buC x ∧ tyB x := by
 obtain ⟨xs, n, _, _, _, hxl, hg⟩ := DataW.trod_struct Tryz.underlying32 hf
 match cs, hl with
 | [c0, c1, c2, c3, c4, c5], _ =>
  match xs, hxl with
  | [x0, x1, x2, x3], _ =>
   have g0 : DataW.trod enc Tryz.prog W 0 spare held n 27 [c0, c1] = some x0 := by simpa [Sh.cells_vec] using hg 0 _ rfl
   have g1 : DataW.trod enc Tryz.prog W 0 spare held n 27 [c2, c3] = some x1 := by simpa [Sh.cells_vec] using hg 1 _ rfl
   have g2 : DataW.trod enc Tryz.prog W 0 spare held n 3 [c4] = some x2 := by simpa [Ev.cells_int] using hg 2 _ rfl
   have g3 : DataW.trod enc Tryz.prog W 0 spare held n 3 [c5] = some x3 := by simpa [Ev.cells_int] using hg 3 _ rfl
   obtain ⟨u, e0, a0, a1⟩ := Sh.vec_cells g0 rfl
   obtain ⟨v, e1, b0, b1⟩ := Sh.vec_cells g1 rfl
   obtain ⟨k2, e2, _, _⟩ := DataW.trod_int (k := .i64) Tryz.underlying3 g2
   obtain ⟨k3, e3, _, _⟩ := DataW.trod_int (k := .i64) Tryz.underlying3 g3
   injection e0 with e00 e01; injection e01 with e01; injection e1 with e10 e11; injection e11 with e11
   injection e2 with e2; injection e3 with e3
   subst e00 e01 e10 e11 e2 e3
   exact ⟨⟨u.1, u.2, v.1, v.2, k2, k3⟩, rfl, a0, a1, b0, b1⟩
theorem ins_cells {H : Type} {enc : TypeId × Value → H} {W : World} {spare : Nat → Bool} {held : Bool} {fuel : Nat} {cs : List Value} {y : DataW H × List MemPlace}
 (hf : DataW.trod enc Tryz.prog W 0 spare held fuel 41 cs = some y) (hl : cs.length = 2) : ∃ x : Int × Int, cs = incs x ∧ (0 ≤ x.1 ∧ x.1 ≤ 255) ∧ 0 ≤ x.2 ∧ x.2 ≤ 255 := by
 obtain ⟨xs, n, _, _, _, hxl, hg⟩ := DataW.trod_array Tryz.underlying41 hf
 match cs, hl with
 | [c0, c1], _ =>
  match xs, hxl with
  | [x0, x1], _ =>
   have g0 : DataW.trod enc Tryz.prog W 0 spare held n 5 [c0] = some x0 := by simpa [cells_u8] using hg 0 (by decide)
   have g1 : DataW.trod enc Tryz.prog W 0 spare held n 5 [c1] = some x1 := by simpa [cells_u8] using hg 1 (by decide)
   obtain ⟨k0, e0, _, w0⟩ := DataW.trod_int (k := .u8) Tryz.underlying5 g0
   obtain ⟨k1, e1, _, w1⟩ := DataW.trod_int (k := .u8) Tryz.underlying5 g1
   injection e0 with e0; injection e1 with e1
   subst e0 e1
   exact ⟨(k0, k1), rfl, bounds_u8 w0, bounds_u8 w1⟩

theorem cut_at (l : List Value) (a n : Nat) : l.drop a = (l.drop a).take n ++ l.drop (a + n) := by rw [← List.drop_drop, List.take_append_drop]
theorem state_cells {H : Type} {enc : TypeId × Value → H} {W : World} {spare : Nat → Bool} {held : Bool} {fuel : Nat} {cs : List Value} {y : DataW H × List MemPlace}
 (hf : DataW.trod enc Tryz.prog W 0 spare held fuel 35 cs = some y) (hl : cs.length = 60) : ∃ s : St, cs = stC s ∧ tyS s := by
 obtain ⟨xs, n, _, _, _, hxl, hg⟩ := DataW.trod_struct Tryz.underlying35 hf
 match xs, hxl with
 | [x0, x1, x2, x3, x4, x5], _ =>
  have g0 : DataW.trod enc Tryz.prog W 0 spare held n 3 ((cs.drop 0).take 1) = some x0 := by have h := hg 0 _ rfl; change DataW.trod _ _ _ _ _ _ n 3 ((cs.drop 0).take (Tryz.prog.cellsOf 3)) = some x0 at h; rw [Ev.cells_int] at h; exact h
  have g1 : DataW.trod enc Tryz.prog W 0 spare held n 22 ((cs.drop 1).take 1) = some x1 := by have h := hg 1 _ rfl; change DataW.trod _ _ _ _ _ _ n 22 ((cs.drop 1).take (Tryz.prog.cellsOf 22)) = some x1 at h; rw [cells_u32] at h; exact h
  have g2 : DataW.trod enc Tryz.prog W 0 spare held n 3 ((cs.drop 2).take 1) = some x2 := by have h := hg 2 _ rfl; change DataW.trod _ _ _ _ _ _ n 3 ((cs.drop 2).take (Tryz.prog.cellsOf 3)) = some x2 at h; rw [Ev.cells_int] at h; exact h
  have g3 : DataW.trod enc Tryz.prog W 0 spare held n 3 ((cs.drop 3).take 1) = some x3 := by have h := hg 3 _ rfl; change DataW.trod _ _ _ _ _ _ n 3 ((cs.drop 3).take (Tryz.prog.cellsOf 3)) = some x3 at h; rw [Ev.cells_int] at h; exact h
  have g4 : DataW.trod enc Tryz.prog W 0 spare held n 30 ((cs.drop 4).take 20) = some x4 := by have h := hg 4 _ rfl; change DataW.trod _ _ _ _ _ _ n 30 ((cs.drop 4).take (Tryz.prog.cellsOf 30)) = some x4 at h; rw [cells_pls] at h; exact h
  have g5 : DataW.trod enc Tryz.prog W 0 spare held n 33 ((cs.drop 24).take 36) = some x5 := by have h := hg 5 _ rfl; change DataW.trod _ _ _ _ _ _ n 33 ((cs.drop 24).take (Tryz.prog.cellsOf 33)) = some x5 at h; rw [cells_shs] at h; exact h
  obtain ⟨k0, e0, _, _⟩ := DataW.trod_int (k := .i64) Tryz.underlying3 g0
  obtain ⟨k1, e1, _, w1⟩ := DataW.trod_int (k := .u32) Tryz.underlying22 g1
  obtain ⟨k2, e2, _, _⟩ := DataW.trod_int (k := .i64) Tryz.underlying3 g2
  obtain ⟨k3, e3, _, _⟩ := DataW.trod_int (k := .i64) Tryz.underlying3 g3
  obtain ⟨ys, m, _, _, _, hyl, hy⟩ := DataW.trod_array Tryz.underlying30 g4
  obtain ⟨zs, m', _, _, _, hzl, hz⟩ := DataW.trod_array Tryz.underlying33 g5
  match ys, hyl, zs, hzl with
  | [y0, y1], _, [z0, z1, z2, z3, z4, z5], _ =>
   have pl : ∀ (j : Nat) (y : DataW H × List MemPlace), j < 2 → DataW.trod enc Tryz.prog W 0 spare held m 29 ((((cs.drop 4).take 20).drop (j * Tryz.prog.cellsOf 29)).take (Tryz.prog.cellsOf 29)) = some y → ∃ p : Pl, (cs.drop (4 + j * 10)).take 10 = plC p ∧ tyP p := by
    intro j y hj h
    rw [cells_player] at h
    have e : (((cs.drop 4).take 20).drop (j * 10)).take 10 = (cs.drop (4 + j * 10)).take 10 := by
     rw [List.drop_take, List.take_take, List.drop_drop, Nat.min_eq_left (by omega)]
    rw [e] at h
    exact player_cells h (by rw [List.length_take, List.length_drop]; omega)
   have sh : ∀ (j : Nat) (y : DataW H × List MemPlace), j < 6 → DataW.trod enc Tryz.prog W 0 spare held m' 32 ((((cs.drop 24).take 36).drop (j * Tryz.prog.cellsOf 32)).take (Tryz.prog.cellsOf 32)) = some y → ∃ p : Bu, (cs.drop (24 + j * 6)).take 6 = buC p ∧ tyB p := by
    intro j y hj h
    rw [cells_shot] at h
    have e : (((cs.drop 24).take 36).drop (j * 6)).take 6 = (cs.drop (24 + j * 6)).take 6 := by
     rw [List.drop_take, List.take_take, List.drop_drop, Nat.min_eq_left (by omega)]
    rw [e] at h
    exact shot_cells h (by rw [List.length_take, List.length_drop]; omega)
   obtain ⟨p0, q0, t0⟩ := pl 0 y0 (by decide) (hy 0 (by decide))
   obtain ⟨p1, q1, t1⟩ := pl 1 y1 (by decide) (hy 1 (by decide))
   obtain ⟨s0, r0, u0⟩ := sh 0 z0 (by decide) (hz 0 (by decide))
   obtain ⟨s1, r1, u1⟩ := sh 1 z1 (by decide) (hz 1 (by decide))
   obtain ⟨s2, r2, u2⟩ := sh 2 z2 (by decide) (hz 2 (by decide))
   obtain ⟨s3, r3, u3⟩ := sh 3 z3 (by decide) (hz 3 (by decide))
   obtain ⟨s4, r4, u4⟩ := sh 4 z4 (by decide) (hz 4 (by decide))
   obtain ⟨s5, r5, u5⟩ := sh 5 z5 (by decide) (hz 5 (by decide))
   have b1 := bounds_u32 w1
   refine ⟨⟨k0, k1, k2, k3, p0, p1, s0, s1, s2, s3, s4, s5⟩, ?_, ⟨b1.1, by show k1 < 4294967296; omega⟩, t0, t1, u0, u1, u2, u3, u4, u5⟩
   have hend : cs.drop 60 = [] := List.drop_eq_nil_of_le (by omega)
   have h0 : cs = cs.drop 0 := rfl
   rw [h0, cut_at cs 0 1, e0, cut_at cs 1 1, e1, cut_at cs 2 1, e2, cut_at cs 3 1, e3, cut_at cs 4 10, q0, cut_at cs 14 10, q1, cut_at cs 24 6, r0, cut_at cs 30 6, r1, cut_at cs 36 6, r2, cut_at cs 42 6, r3, cut_at cs 48 6, r4, cut_at cs 54 6, r5, hend]
   rfl

/-- a state that came in. -/
theorem open_state {H : Type} {enc : TypeId × Value → H} {W : World} {r : Reach} {b0 : Nat} {spare : Nat → Bool} {held : Bool} {v : Value} {d : DataW H} {p : List MemPlace}
 (hv : Value.okWide Tryz.prog W r b0 35 v) (h : DataW.Trod enc Tryz.prog W 0 spare held 35 v d p) : ∃ s : St, v = .agg (stC s).toArray ∧ tyS s := by
 obtain ⟨cs, rfl, hsz⟩ := okWide_struct Tryz.underlying35 hv
 rw [cells_state] at hsz
 obtain ⟨fuel, hf⟩ := h
 obtain ⟨s, e, hs⟩ := state_cells hf (by simpa [Value.cells] using hsz)
 refine ⟨s, ?_, hs⟩
 have e2 : cs = (stC s).toArray := by
  apply Array.ext'
  simpa [Value.cells] using e
 rw [e2]

/-- what an input's byte may be. -/
abbrev In2 := Fin 256 × Fin 256
abbrev in2 (x : In2) : Int × Int := ((x.1.val : Int), (x.2.val : Int))
theorem ins_of {H : Type} {enc : TypeId × Value → H} {W : World} {spare : Nat → Bool} {held : Bool} {ao : Option Addr} {len cap : Nat} {d : DataW H} {ps : List MemPlace}
 (h : DataW.Trod enc Tryz.prog W 0 spare held 23 (.slice ao len cap) d ps) : ∃ l : List (Int × Int), Ins W (.slice ao len cap) l ∧ ∀ x, x ∈ l → (0 ≤ x.1 ∧ x.1 ≤ 255) ∧ 0 ≤ x.2 ∧ x.2 ≤ 255 := by
 obtain ⟨l, a, L, cp, e, h1, h2, h3, h4⟩ := Ev.sl_of (enc' := fun x : In2 => incs (in2 x)) (k := 2) (by decide) (fun _ => rfl) Tryz.underlying23 cells_ins (fun n cs y g1 g2 => by
  obtain ⟨x, e, ⟨a1, a2⟩, a3, a4⟩ := ins_cells g1 g2
  refine ⟨(⟨x.1.toNat, by omega⟩, ⟨x.2.toNat, by omega⟩), ?_⟩
  rw [e]
  show [Value.int .u8 x.1, Value.int .u8 x.2] = [Value.int .u8 ((x.1.toNat : Nat) : Int), Value.int .u8 ((x.2.toNat : Nat) : Int)]
  rw [Int.toNat_of_nonneg a1, Int.toNat_of_nonneg a3]) h
 refine ⟨l.map in2, ⟨a, L, cp, e, by rw [List.length_map]; exact h1, h2, h3, fun hp => ?_⟩, fun x hx => ?_⟩
 · obtain ⟨b, o, e2, hb, hc⟩ := h4 (by simpa using hp)
   refine ⟨b, o, e2, hb, fun j hj i v hv => ?_⟩
   have hj2 : j < l.length := by simpa using hj
   rw [List.getElem_map] at hv
   exact hc j hj2 i v hv
 · obtain ⟨y, _, rfl⟩ := List.mem_map.1 hx
   exact ⟨⟨by show (0:Int) ≤ (y.1.val : Int); omega, by show (y.1.val : Int) ≤ 255; omega⟩, by show (0:Int) ≤ (y.2.val : Int); omega, by show (y.2.val : Int) ≤ 255; omega⟩

end Go.Proofs.YtigjflacinlafaaGreatDoor.Gm

namespace Go.Proofs.YtigjflacinlafaaGreatDoor.Gm
open Go.RowKit Go.ChangeShapes Go.WideShapes Go.ChangeAt Go.Deep
open Go.Proofs.YtigjflacinlafaaGreatDoor.Ev (Ev Ky ecs kcs)
set_option linter.unusedVariables false
set_option maxRecDepth 100000

def laidL : List (String × DataW Unit) := [("promptbook/game.corners", Rows.laid_promptbook_game_corners), ("promptbook/game.sounds", Rows.laid_promptbook_game_sounds)]
abbrev litI (k : IntKind) (n : Int) : DataW Unit := .lit (.int k n)
def vecD (a b : Int) : DataW Unit := .agg [litI .i32 a, litI .i32 b]
def keyD (k : Ky) : DataW Unit := .agg [litI .i64 k.f, litI .i64 k.e, litI .i64 k.k, litI .i64 k.o]
def evD (x : Ev) : DataW Unit := .agg [keyD x.key, litI .i64 x.a, litI .i64 x.g, litI .i64 x.p, litI .i64 x.r, litI .i64 x.l]
theorem snd_datum : (Rows.laid_promptbook_game_sounds : DataW Unit) = .agg [evD (sndE 0), evD (sndE 1), evD (sndE 2), evD (sndE 3), evD (sndE 4), evD (sndE 5), evD (sndE 6), evD (sndE 7), evD (sndE 8), evD (sndE 9)] := by rfl
theorem corn_datum : (Rows.laid_promptbook_game_corners : DataW Unit) = .agg [vecD (-2621440) (-2621440), vecD 2621440 (-2621440), vecD (-2621440) 2621440, vecD 2621440 2621440] := by rfl

theorem gCorn : Tryz.prog.globalNamed "promptbook/game.corners" = some 0 := by kernel_rfl
theorem gSnd : Tryz.prog.globalNamed "promptbook/game.sounds" = some 1 := by kernel_rfl
theorem tCorn : (Tryz.prog.globals[0]?).map (·.type) = some 120 := by kernel_rfl
theorem tSnd : (Tryz.prog.globals[1]?).map (·.type) = some 125 := by kernel_rfl
theorem cells_corn : Tryz.prog.cellsOf 120 = 8 := by kernel_rfl
theorem cells_snd : Tryz.prog.cellsOf 125 = 90 := by kernel_rfl

section
variable {enc : TypeId × Value → Unit} {W : World} {spare : Nat → Bool} {held : Bool} {fuel : Nat} {cs : List Value} {y : DataW Unit × List MemPlace}
theorem int_lit {t : TypeId} {k : IntKind} {n : Int} (hu : Tryz.prog.underlying t = some (.int k)) (hf : DataW.trod enc Tryz.prog W 0 spare held fuel t cs = some y) (hy : y.1 = litI k n) : cs = [.int k n] := by
 obtain ⟨r, e, hy2, _⟩ := DataW.trod_int (k := k) hu hf
 rw [hy2] at hy
 have : r = n := by simpa using hy
 rw [e, this]
theorem vec_lit {a b : Int} (hf : DataW.trod enc Tryz.prog W 0 spare held fuel 27 cs = some y) (hl : cs.length = 2) (hy : y.1 = vecD a b) : cs = [.int .i32 a, .int .i32 b] := by
 obtain ⟨xs, n, _, hx, _, hxl, hg⟩ := DataW.trod_struct Tryz.underlying27 hf
 rw [hx] at hy
 match cs, hl with
 | [c0, c1], _ =>
  match xs, hxl with
  | [x0, x1], _ =>
   have g0 : DataW.trod enc Tryz.prog W 0 spare held n 25 [c0] = some x0 := by simpa [Sh.cells_fix] using hg 0 _ rfl
   have g1 : DataW.trod enc Tryz.prog W 0 spare held n 25 [c1] = some x1 := by simpa [Sh.cells_fix] using hg 1 _ rfl
   unfold vecD at hy
   simp only [List.map_cons, List.map_nil, DataW.agg.injEq, List.cons.injEq, and_true] at hy
   have e0 := int_lit (k := .i32) Tryz.underlying25 g0 hy.1
   have e1 := int_lit (k := .i32) Tryz.underlying25 g1 hy.2
   injection e0 with e0; injection e1 with e1
   rw [e0, e1]
theorem key_lit {k : Ky} (hf : DataW.trod enc Tryz.prog W 0 spare held fuel 51 cs = some y) (hl : cs.length = 4) (hy : y.1 = keyD k) : cs = kcs k := by
 obtain ⟨xs, n, _, hx, _, hxl, hg⟩ := DataW.trod_struct Tryz.underlying51 hf
 rw [hx] at hy
 match cs, hl with
 | [c0, c1, c2, c3], _ =>
  match xs, hxl with
  | [x0, x1, x2, x3], _ =>
   have g0 : DataW.trod enc Tryz.prog W 0 spare held n 3 [c0] = some x0 := by simpa [Ev.cells_int] using hg 0 _ rfl
   have g1 : DataW.trod enc Tryz.prog W 0 spare held n 3 [c1] = some x1 := by simpa [Ev.cells_int] using hg 1 _ rfl
   have g2 : DataW.trod enc Tryz.prog W 0 spare held n 3 [c2] = some x2 := by simpa [Ev.cells_int] using hg 2 _ rfl
   have g3 : DataW.trod enc Tryz.prog W 0 spare held n 3 [c3] = some x3 := by simpa [Ev.cells_int] using hg 3 _ rfl
   unfold keyD at hy
   simp only [List.map_cons, List.map_nil, DataW.agg.injEq, List.cons.injEq, and_true] at hy
   have e0 := int_lit (k := .i64) Tryz.underlying3 g0 hy.1
   have e1 := int_lit (k := .i64) Tryz.underlying3 g1 hy.2.1
   have e2 := int_lit (k := .i64) Tryz.underlying3 g2 hy.2.2.1
   have e3 := int_lit (k := .i64) Tryz.underlying3 g3 hy.2.2.2
   injection e0 with e0; injection e1 with e1; injection e2 with e2; injection e3 with e3
   rw [e0, e1, e2, e3]
theorem ev_lit {x : Ev} (hf : DataW.trod enc Tryz.prog W 0 spare held fuel 53 cs = some y) (hl : cs.length = 9) (hy : y.1 = evD x) : cs = ecs x := by
 obtain ⟨xs, n, _, hx, _, hxl, hg⟩ := DataW.trod_struct Tryz.underlying53 hf
 rw [hx] at hy
 match cs, hl with
 | [c0, c1, c2, c3, c4, c5, c6, c7, c8], _ =>
  match xs, hxl with
  | [x0, x1, x2, x3, x4, x5], _ =>
   have g0 : DataW.trod enc Tryz.prog W 0 spare held n 51 [c0, c1, c2, c3] = some x0 := by simpa [Ev.cells_key] using hg 0 _ rfl
   have g1 : DataW.trod enc Tryz.prog W 0 spare held n 3 [c4] = some x1 := by simpa [Ev.cells_int] using hg 1 _ rfl
   have g2 : DataW.trod enc Tryz.prog W 0 spare held n 3 [c5] = some x2 := by simpa [Ev.cells_int] using hg 2 _ rfl
   have g3 : DataW.trod enc Tryz.prog W 0 spare held n 3 [c6] = some x3 := by simpa [Ev.cells_int] using hg 3 _ rfl
   have g4 : DataW.trod enc Tryz.prog W 0 spare held n 3 [c7] = some x4 := by simpa [Ev.cells_int] using hg 4 _ rfl
   have g5 : DataW.trod enc Tryz.prog W 0 spare held n 3 [c8] = some x5 := by simpa [Ev.cells_int] using hg 5 _ rfl
   unfold evD at hy
   simp only [List.map_cons, List.map_nil, DataW.agg.injEq, List.cons.injEq, and_true] at hy
   have e0 := key_lit g0 rfl hy.1
   have e1 := int_lit (k := .i64) Tryz.underlying3 g1 hy.2.1
   have e2 := int_lit (k := .i64) Tryz.underlying3 g2 hy.2.2.1
   have e3 := int_lit (k := .i64) Tryz.underlying3 g3 hy.2.2.2.1
   have e4 := int_lit (k := .i64) Tryz.underlying3 g4 hy.2.2.2.2.1
   have e5 := int_lit (k := .i64) Tryz.underlying3 g5 hy.2.2.2.2.2
   injection e1 with e1; injection e2 with e2; injection e3 with e3; injection e4 with e4; injection e5 with e5
   show [c0, c1, c2, c3] ++ [c4, c5, c6, c7, c8] = _
   rw [e0, e1, e2, e3, e4, e5]
   rfl
end
theorem seg_at {cs : Array Value} {a n : Nat} {l : List Value} (h : (cs.toList.drop a).take n = l) {j : Nat} {v : Value} (hv : l[j]? = some v) (hj : j < n) : cs[a + j]? = some v := by
 rw [← h, List.getElem?_take_of_lt hj, List.getElem?_drop, Array.getElem?_toList] at hv
 exact hv

/-- What the condition gives the walks. -/
theorem tab_of {W : World} (h : laidMetH Tryz.prog laidL W) : Tab W := by
 rw [MakeChecks.laidMetH_plain _ _ _ (by kernel_rfl)] at h
 obtain ⟨ps, ⟨g0, t0, cs0, f0, p0, q0, hg0, ht0, hv0, hd0, ⟨g1, t1, cs1, f1, p1, q1, hg1, ht1, hv1, hd1, _, _⟩, _⟩, _, _⟩ := h
 obtain rfl := Option.some.inj (gCorn.symm.trans hg0)
 obtain rfl := Option.some.inj (gSnd.symm.trans hg1)
 obtain rfl := Option.some.inj (tCorn.symm.trans ht0)
 obtain rfl := Option.some.inj (tSnd.symm.trans ht1)
 constructor
 · obtain ⟨xs, m, _, hx, hlen, hxl, hel⟩ := DataW.trod_array Tryz.underlying120 hd0
   rw [corn_datum] at hx
   rw [cells_corn] at hlen
   have hx1 := (Prod.mk.inj hx).1
   match xs, hxl with
   | [x0, x1, x2, x3], _ =>
    simp only [List.map_cons, List.map_nil, DataW.agg.injEq, List.cons.injEq, and_true] at hx1
    have vc : ∀ (en : TypeId × Value → Unit) (sp : Nat → Bool) (hd : Bool) (j : Nat) (y : DataW Unit × List MemPlace) (a b : Int), j < 4 → DataW.trod en Tryz.prog W 0 sp hd m 27 ((cs0.toList.drop (j * Tryz.prog.cellsOf 27)).take (Tryz.prog.cellsOf 27)) = some y → y.1 = vecD a b → (cs0.toList.drop (j * 2)).take 2 = [.int .i32 a, .int .i32 b] := by
     intro en sp hd j y a b hj h hy
     rw [Sh.cells_vec] at h
     exact vec_lit h (by rw [List.length_take, List.length_drop]; omega) hy
    have e0 := vc _ _ _ 0 x0 _ _ (by decide) (hel 0 (by decide)) hx1.1.symm
    have e1 := vc _ _ _ 1 x1 _ _ (by decide) (hel 1 (by decide)) hx1.2.1.symm
    have e2 := vc _ _ _ 2 x2 _ _ (by decide) (hel 2 (by decide)) hx1.2.2.1.symm
    have e3 := vc _ _ _ 3 x3 _ _ (by decide) (hel 3 (by decide)) hx1.2.2.2.symm
    intro j v hv
    rw [World.var?_cell hg0 hv0 j]
    have hj : j < 8 := (List.getElem?_eq_some_iff.1 hv).1
    have hh : j = 0 ∨ j = 1 ∨ j = 2 ∨ j = 3 ∨ j = 4 ∨ j = 5 ∨ j = 6 ∨ j = 7 := by omega
    rcases hh with rfl | rfl | rfl | rfl | rfl | rfl | rfl | rfl
    · exact seg_at e0 (j := 0) hv (by decide)
    · exact seg_at e0 (j := 1) hv (by decide)
    · exact seg_at e1 (j := 0) hv (by decide)
    · exact seg_at e1 (j := 1) hv (by decide)
    · exact seg_at e2 (j := 0) hv (by decide)
    · exact seg_at e2 (j := 1) hv (by decide)
    · exact seg_at e3 (j := 0) hv (by decide)
    · exact seg_at e3 (j := 1) hv (by decide)
 · obtain ⟨xs, m, _, hx, hlen, hxl, hel⟩ := DataW.trod_array Tryz.underlying125 hd1
   rw [snd_datum] at hx
   rw [cells_snd] at hlen
   have hx1 := (Prod.mk.inj hx).1
   match xs, hxl with
   | [x0, x1, x2, x3, x4, x5, x6, x7, x8, x9], _ =>
    simp only [List.map_cons, List.map_nil, DataW.agg.injEq, List.cons.injEq, and_true] at hx1
    have vc : ∀ (en : TypeId × Value → Unit) (sp : Nat → Bool) (hd : Bool) (k : Nat) (y : DataW Unit × List MemPlace), k < 10 → DataW.trod en Tryz.prog W 0 sp hd m 53 ((cs1.toList.drop (k * Tryz.prog.cellsOf 53)).take (Tryz.prog.cellsOf 53)) = some y → y.1 = evD (sndE k) → (cs1.toList.drop (k * 9)).take 9 = ecs (sndE k) := by
     intro en sp hd k y hk h hy
     rw [Ev.cells_event] at h
     exact ev_lit h (by rw [List.length_take, List.length_drop]; omega) hy
    obtain ⟨y0, y1, y2, y3, y4, y5, y6, y7, y8, y9⟩ := hx1
    intro k j v hk hv
    rw [World.var?_cell hg1 hv1 (k * 9 + j)]
    have hj : j < 9 := (List.getElem?_eq_some_iff.1 hv).1
    have hh : k = 0 ∨ k = 1 ∨ k = 2 ∨ k = 3 ∨ k = 4 ∨ k = 5 ∨ k = 6 ∨ k = 7 ∨ k = 8 ∨ k = 9 := by omega
    rcases hh with rfl | rfl | rfl | rfl | rfl | rfl | rfl | rfl | rfl | rfl
    · exact seg_at (vc _ _ _ 0 x0 (by decide) (hel 0 (by decide)) y0.symm) hv hj
    · exact seg_at (vc _ _ _ 1 x1 (by decide) (hel 1 (by decide)) y1.symm) hv hj
    · exact seg_at (vc _ _ _ 2 x2 (by decide) (hel 2 (by decide)) y2.symm) hv hj
    · exact seg_at (vc _ _ _ 3 x3 (by decide) (hel 3 (by decide)) y3.symm) hv hj
    · exact seg_at (vc _ _ _ 4 x4 (by decide) (hel 4 (by decide)) y4.symm) hv hj
    · exact seg_at (vc _ _ _ 5 x5 (by decide) (hel 5 (by decide)) y5.symm) hv hj
    · exact seg_at (vc _ _ _ 6 x6 (by decide) (hel 6 (by decide)) y6.symm) hv hj
    · exact seg_at (vc _ _ _ 7 x7 (by decide) (hel 7 (by decide)) y7.symm) hv hj
    · exact seg_at (vc _ _ _ 8 x8 (by decide) (hel 8 (by decide)) y8.symm) hv hj
    · exact seg_at (vc _ _ _ 9 x9 (by decide) (hel 9 (by decide)) y9.symm) hv hj

/-- The door's own heap meets the condition. -/
theorem door_met (os : Os) (args : Array Value) : laidMetH Tryz.prog laidL ((World.doorLaid Tryz.prog 32 os).forCall (fun _ _ => 0) ⟨#[], args, []⟩).memory :=
 laidMetH_of_parts3 (fuel := 8) (laidMet_of_run' 8 (by kernel_rfl) (by kernel_rfl)) (by kernel_rfl) (by kernel_rfl)

end Go.Proofs.YtigjflacinlafaaGreatDoor.Gm
