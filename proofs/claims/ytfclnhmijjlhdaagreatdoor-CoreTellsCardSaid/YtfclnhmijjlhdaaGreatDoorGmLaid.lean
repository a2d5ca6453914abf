/- The condition on package game's tables, and what it gives the walks (out of GmOpen; for laws whose parameters hold no state). -/
import Derived.Test.YtfclnhmijjlhdaaGreatDoorJ1
import Derived.ProofKit
import Derived.OpenShut
import Derived.Carry
import Derived.Deep.Slices
import Derived.Deep.Fields
import Derived.Test.YtfclnhmijjlhdaaGreatDoorJ9
import Derived.Test.YtfclnhmijjlhdaaGreatDoorRows
import Derived.LaidMore
import Derived.Stop.Joined
namespace Go.Proofs.YtfclnhmijjlhdaaGreatDoor.Ev
theorem laid : laidOutB Tryz.prog = true := by kernel_rfl

theorem cells_int : Tryz.prog.cellsOf 3 = 1 := by kernel_rfl

theorem cells_key : Tryz.prog.cellsOf 118 = 4 := by kernel_rfl

theorem cells_event : Tryz.prog.cellsOf 120 = 9 := by kernel_rfl
end Go.Proofs.YtfclnhmijjlhdaaGreatDoor.Ev
namespace Go.Proofs.YtfclnhmijjlhdaaGreatDoor.Sh
theorem laid : laidOutB Tryz.prog = true := by kernel_rfl

theorem cells_fix : Tryz.prog.cellsOf 55 = 1 := by kernel_rfl

theorem cells_vec : Tryz.prog.cellsOf 57 = 2 := by kernel_rfl
end Go.Proofs.YtfclnhmijjlhdaaGreatDoor.Sh
namespace Go.Proofs.YtfclnhmijjlhdaaGreatDoor.Gm
theorem cells_u32 : Tryz.prog.cellsOf 22 = 1 := by kernel_rfl

theorem cells_u8 : Tryz.prog.cellsOf 5 = 1 := by kernel_rfl
end Go.Proofs.YtfclnhmijjlhdaaGreatDoor.Gm

namespace Go.Proofs.YtfclnhmijjlhdaaGreatDoor.Gm
open Go.RowKit Go.ChangeShapes Go.WideShapes Go.ChangeAt Go.Deep
open Go.Proofs.YtfclnhmijjlhdaaGreatDoor.Ev (Ev Ky ecs kcs)
set_option linter.unusedVariables false
set_option maxRecDepth 100000

def laidL : List (String × DataW Unit) := [("promptbook/game.corners", Rows.laid_promptbook_game_corners), ("promptbook/game.sounds", Rows.laid_promptbook_game_sounds)]
abbrev litI (k : IntKind) (n : Int) : DataW Unit := .lit (.int k n)
def vecD (a b : Int) : DataW Unit := .agg [litI .i32 a, litI .i32 b]
def keyD (k : Ky) : DataW Unit := .agg [litI .i64 k.f, litI .i64 k.e, litI .i64 k.k, litI .i64 k.o]
def evD (x : Ev) : DataW Unit := .agg [keyD x.key, litI .i64 x.a, litI .i64 x.g, litI .i64 x.p, litI .i64 x.r, litI .i64 x.l]
theorem snd_datum : (Rows.laid_promptbook_game_sounds : DataW Unit) = .agg [evD (sndE 0), evD (sndE 1), evD (sndE 2), evD (sndE 3), evD (sndE 4), evD (sndE 5), evD (sndE 6), evD (sndE 7), evD (sndE 8), evD (sndE 9)] := by rfl
theorem corn_datum : (Rows.laid_promptbook_game_corners : DataW Unit) = .agg [vecD (-2621440) (-2621440), vecD 2621440 (-2621440), vecD (-2621440) 2621440, vecD 2621440 2621440] := by rfl

theorem gCorn : Tryz.prog.globalNamed "promptbook/game.corners" = some 0 := by kernel_rfl
theorem gSnd : Tryz.prog.globalNamed "promptbook/game.sounds" = some 1 := by kernel_rfl
theorem tCorn : (Tryz.prog.globals[0]?).map (·.type) = some 193 := by kernel_rfl
theorem tSnd : (Tryz.prog.globals[1]?).map (·.type) = some 201 := by kernel_rfl
theorem cells_corn : Tryz.prog.cellsOf 193 = 8 := by kernel_rfl
theorem cells_snd : Tryz.prog.cellsOf 201 = 90 := by kernel_rfl

section
variable {enc : TypeId × Value → Unit} {W : World} {spare : Nat → Bool} {held : Bool} {fuel : Nat} {cs : List Value} {y : DataW Unit × List MemPlace}
theorem int_lit {t : TypeId} {k : IntKind} {n : Int} (hu : Tryz.prog.underlying t = some (.int k)) (hf : DataW.trod enc Tryz.prog W 0 spare held fuel t cs = some y) (hy : y.1 = litI k n) : cs = [.int k n] := by
 obtain ⟨r, e, hy2, _⟩ := DataW.trod_int (k := k) hu hf
 rw [hy2] at hy
 have : r = n := by simpa using hy
 rw [e, this]
theorem vec_lit {a b : Int} (hf : DataW.trod enc Tryz.prog W 0 spare held fuel 57 cs = some y) (hl : cs.length = 2) (hy : y.1 = vecD a b) : cs = [.int .i32 a, .int .i32 b] := by
 obtain ⟨xs, n, _, hx, _, hxl, hg⟩ := DataW.trod_struct Tryz.underlying57 hf
 rw [hx] at hy
 match cs, hl with
 | [c0, c1], _ =>
  match xs, hxl with
  | [x0, x1], _ =>
   have g0 : DataW.trod enc Tryz.prog W 0 spare held n 55 [c0] = some x0 := by simpa [Sh.cells_fix] using hg 0 _ rfl
   have g1 : DataW.trod enc Tryz.prog W 0 spare held n 55 [c1] = some x1 := by simpa [Sh.cells_fix] using hg 1 _ rfl
   unfold vecD at hy
   simp only [List.map_cons, List.map_nil, DataW.agg.injEq, List.cons.injEq, and_true] at hy
   have e0 := int_lit (k := .i32) Tryz.underlying55 g0 hy.1
   have e1 := int_lit (k := .i32) Tryz.underlying55 g1 hy.2
   injection e0 with e0; injection e1 with e1
   rw [e0, e1]
theorem key_lit {k : Ky} (hf : DataW.trod enc Tryz.prog W 0 spare held fuel 118 cs = some y) (hl : cs.length = 4) (hy : y.1 = keyD k) : cs = kcs k := by
 obtain ⟨xs, n, _, hx, _, hxl, hg⟩ := DataW.trod_struct Tryz.underlying118 hf
 rw [hx] at hy
 match cs, hl with
 | [c0, c1, c2, c3], _ =>
  match xs, hxl with
  | [x0, x1, x2, x3], _ =>
   have g0 : DataW.trod enc Tryz.prog W 0 spare held n 3 [c0] = some x0 := by simpa [Ev.cells_int] using hg 0 _ rfl
   have g1 : DataW.trod enc Tryz.prog W 0 spare held n 3 [c1] = some x1 := by simpa [Ev.cells_int] using hg 1 _ rfl
   have g2 : DataW.trod enc Tryz.prog W 0 spare held n 3 [c2] = some x2 := by simpa [Ev.cells_int] using hg 2 _ rfl
   have g3 : DataW.trod enc Tryz.prog W 0 spare held n 3 [c3] = some x3 := by simpa [Ev.cells_int] using hg 3 _ rfl
   unfold keyD at hy
   simp only [List.map_cons, List.map_nil, DataW.agg.injEq, List.cons.injEq, and_true] at hy
   have e0 := int_lit (k := .i64) Tryz.underlying3 g0 hy.1
   have e1 := int_lit (k := .i64) Tryz.underlying3 g1 hy.2.1
   have e2 := int_lit (k := .i64) Tryz.underlying3 g2 hy.2.2.1
   have e3 := int_lit (k := .i64) Tryz.underlying3 g3 hy.2.2.2
   injection e0 with e0; injection e1 with e1; injection e2 with e2; injection e3 with e3
   rw [e0, e1, e2, e3]
theorem ev_lit {x : Ev} (hf : DataW.trod enc Tryz.prog W 0 spare held fuel 120 cs = some y) (hl : cs.length = 9) (hy : y.1 = evD x) : cs = ecs x := by
 obtain ⟨xs, n, _, hx, _, hxl, hg⟩ := DataW.trod_struct Tryz.underlying120 hf
 rw [hx] at hy
 match cs, hl with
 | [c0, c1, c2, c3, c4, c5, c6, c7, c8], _ =>
  match xs, hxl with
  | [x0, x1, x2, x3, x4, x5], _ =>
   have g0 : DataW.trod enc Tryz.prog W 0 spare held n 118 [c0, c1, c2, c3] = some x0 := by simpa [Ev.cells_key] using hg 0 _ rfl
   have g1 : DataW.trod enc Tryz.prog W 0 spare held n 3 [c4] = some x1 := by simpa [Ev.cells_int] using hg 1 _ rfl
   have g2 : DataW.trod enc Tryz.prog W 0 spare held n 3 [c5] = some x2 := by simpa [Ev.cells_int] using hg 2 _ rfl
   have g3 : DataW.trod enc Tryz.prog W 0 spare held n 3 [c6] = some x3 := by simpa [Ev.cells_int] using hg 3 _ rfl
   have g4 : DataW.trod enc Tryz.prog W 0 spare held n 3 [c7] = some x4 := by simpa [Ev.cells_int] using hg 4 _ rfl
   have g5 : DataW.trod enc Tryz.prog W 0 spare held n 3 [c8] = some x5 := by simpa [Ev.cells_int] using hg 5 _ rfl
   unfold evD at hy
   simp only [List.map_cons, List.map_nil, DataW.agg.injEq, List.cons.injEq, and_true] at hy
   have e0 := key_lit g0 rfl hy.1
   have e1 := int_lit (k := .i64) Tryz.underlying3 g1 hy.2.1
   have e2 := int_lit (k := .i64) Tryz.underlying3 g2 hy.2.2.1
   have e3 := int_lit (k := .i64) Tryz.underlying3 g3 hy.2.2.2.1
   have e4 := int_lit (k := .i64) Tryz.underlying3 g4 hy.2.2.2.2.1
   have e5 := int_lit (k := .i64) Tryz.underlying3 g5 hy.2.2.2.2.2
   injection e1 with e1; injection e2 with e2; injection e3 with e3; injection e4 with e4; injection e5 with e5
   show [c0, c1, c2, c3] ++ [c4, c5, c6, c7, c8] = _
   rw [e0, e1, e2, e3, e4, e5]
   rfl
end
theorem seg_at {cs : Array Value} {a n : Nat} {l : List Value} (h : (cs.toList.drop a).take n = l) {j : Nat} {v : Value} (hv : l[j]? = some v) (hj : j < n) : cs[a + j]? = some v := by
 rw [← h, List.getElem?_take_of_lt hj, List.getElem?_drop, Array.getElem?_toList] at hv
 exact hv

/-- What the condition gives the walks. -/
theorem tab_of {W : World} (h : laidMetH Tryz.prog laidL W) : Tab W := by
 rw [MakeChecks.laidMetH_plain _ _ _ (by kernel_rfl)] at h
 obtain ⟨ps, ⟨g0, t0, cs0, f0, p0, q0, hg0, ht0, hv0, hd0, ⟨g1, t1, cs1, f1, p1, q1, hg1, ht1, hv1, hd1, _, _⟩, _⟩, _, _⟩ := h
 obtain rfl := Option.some.inj (gCorn.symm.trans hg0)
 obtain rfl := Option.some.inj (gSnd.symm.trans hg1)
 obtain rfl := Option.some.inj (tCorn.symm.trans ht0)
 obtain rfl := Option.some.inj (tSnd.symm.trans ht1)
 constructor
 · obtain ⟨xs, m, _, hx, hlen, hxl, hel⟩ := DataW.trod_array Tryz.underlying193 hd0
   rw [corn_datum] at hx
   rw [cells_corn] at hlen
   have hx1 := (Prod.mk.inj hx).1
   match xs, hxl with
   | [x0, x1, x2, x3], _ =>
    simp only [List.map_cons, List.map_nil, DataW.agg.injEq, List.cons.injEq, and_true] at hx1
    have vc : ∀ (en : TypeId × Value → Unit) (sp : Nat → Bool) (hd : Bool) (j : Nat) (y : DataW Unit × List MemPlace) (a b : Int), j < 4 → DataW.trod en Tryz.prog W 0 sp hd m 57 ((cs0.toList.drop (j * Tryz.prog.cellsOf 57)).take (Tryz.prog.cellsOf 57)) = some y → y.1 = vecD a b → (cs0.toList.drop (j * 2)).take 2 = [.int .i32 a, .int .i32 b] := by
     intro en sp hd j y a b hj h hy
     rw [Sh.cells_vec] at h
     exact vec_lit h (by rw [List.length_take, List.length_drop]; omega) hy
    have e0 := vc _ _ _ 0 x0 _ _ (by decide) (hel 0 (by decide)) hx1.1.symm
    have e1 := vc _ _ _ 1 x1 _ _ (by decide) (hel 1 (by decide)) hx1.2.1.symm
    have e2 := vc _ _ _ 2 x2 _ _ (by decide) (hel 2 (by decide)) hx1.2.2.1.symm
    have e3 := vc _ _ _ 3 x3 _ _ (by decide) (hel 3 (by decide)) hx1.2.2.2.symm
    intro j v hv
    rw [World.var?_cell hg0 hv0 j]
    have hj : j < 8 := (List.getElem?_eq_some_iff.1 hv).1
    have hh : j = 0 ∨ j = 1 ∨ j = 2 ∨ j = 3 ∨ j = 4 ∨ j = 5 ∨ j = 6 ∨ j = 7 := by omega
    rcases hh with rfl | rfl | rfl | rfl | rfl | rfl | rfl | rfl
    · exact seg_at e0 (j := 0) hv (by decide)
    · exact seg_at e0 (j := 1) hv (by decide)
    · exact seg_at e1 (j := 0) hv (by decide)
    · exact seg_at e1 (j := 1) hv (by decide)
    · exact seg_at e2 (j := 0) hv (by decide)
    · exact seg_at e2 (j := 1) hv (by decide)
    · exact seg_at e3 (j := 0) hv (by decide)
    · exact seg_at e3 (j := 1) hv (by decide)
 · obtain ⟨xs, m, _, hx, hlen, hxl, hel⟩ := DataW.trod_array Tryz.underlying201 hd1
   rw [snd_datum] at hx
   rw [cells_snd] at hlen
   have hx1 := (Prod.mk.inj hx).1
   match xs, hxl with
   | [x0, x1, x2, x3, x4, x5, x6, x7, x8, x9], _ =>
    simp only [List.map_cons, List.map_nil, DataW.agg.injEq, List.cons.injEq, and_true] at hx1
    have vc : ∀ (en : TypeId × Value → Unit) (sp : Nat → Bool) (hd : Bool) (k : Nat) (y : DataW Unit × List MemPlace), k < 10 → DataW.trod en Tryz.prog W 0 sp hd m 120 ((cs1.toList.drop (k * Tryz.prog.cellsOf 120)).take (Tryz.prog.cellsOf 120)) = some y → y.1 = evD (sndE k) → (cs1.toList.drop (k * 9)).take 9 = ecs (sndE k) := by
     intro en sp hd k y hk h hy
     rw [Ev.cells_event] at h
     exact ev_lit h (by rw [List.length_take, List.length_drop]; omega) hy
    obtain ⟨y0, y1, y2, y3, y4, y5, y6, y7, y8, y9⟩ := hx1
    intro k j v hk hv
    rw [World.var?_cell hg1 hv1 (k * 9 + j)]
    have hj : j < 9 := (List.getElem?_eq_some_iff.1 hv).1
    have hh : k = 0 ∨ k = 1 ∨ k = 2 ∨ k = 3 ∨ k = 4 ∨ k = 5 ∨ k = 6 ∨ k = 7 ∨ k = 8 ∨ k = 9 := by omega
    rcases hh with rfl | rfl | rfl | rfl | rfl | rfl | rfl | rfl | rfl | rfl
    · exact seg_at (vc _ _ _ 0 x0 (by decide) (hel 0 (by decide)) y0.symm) hv hj
    · exact seg_at (vc _ _ _ 1 x1 (by decide) (hel 1 (by decide)) y1.symm) hv hj
    · exact seg_at (vc _ _ _ 2 x2 (by decide) (hel 2 (by decide)) y2.symm) hv hj
    · exact seg_at (vc _ _ _ 3 x3 (by decide) (hel 3 (by decide)) y3.symm) hv hj
    · exact seg_at (vc _ _ _ 4 x4 (by decide) (hel 4 (by decide)) y4.symm) hv hj
    · exact seg_at (vc _ _ _ 5 x5 (by decide) (hel 5 (by decide)) y5.symm) hv hj
    · exact seg_at (vc _ _ _ 6 x6 (by decide) (hel 6 (by decide)) y6.symm) hv hj
    · exact seg_at (vc _ _ _ 7 x7 (by decide) (hel 7 (by decide)) y7.symm) hv hj
    · exact seg_at (vc _ _ _ 8 x8 (by decide) (hel 8 (by decide)) y8.symm) hv hj
    · exact seg_at (vc _ _ _ 9 x9 (by decide) (hel 9 (by decide)) y9.symm) hv hj

/-- The door's own heap meets the condition. -/
theorem door_met (os : Os) (args : Array Value) : laidMetH Tryz.prog laidL ((World.doorLaid Tryz.prog 32 os).forCall (fun _ _ => 0) ⟨#[], args, []⟩).memory :=
 laidMetH_of_parts3 (fuel := 8) (laidMet_of_run' 8 (by kernel_rfl) (by kernel_rfl)) (by kernel_rfl) (by kernel_rfl)

end Go.Proofs.YtfclnhmijjlhdaaGreatDoor.Gm
