/- States that come in (layer 13, freeze). -/
import Derived.Test.YthbncbdnpeglfaaFzMath
import Derived.ProofKit
import Derived.OpenShut
import Derived.Carry
import Derived.Deep.Slices
import Derived.Deep.Fields
namespace Go.Proofs.Ythbncbdnpeglfaa.Sh
open Go.RowKit Go.ChangeShapes Go.WideShapes Go.ChangeAt Go.Deep
set_option linter.unusedVariables false

set_option maxRecDepth 100000
theorem cells_fix : Try.prog.cellsOf 23 = 1 := by kernel_rfl
theorem cells_vec : Try.prog.cellsOf 25 = 2 := by kernel_rfl

theorem vec_cells {H : Type} {enc : TypeId × Value → H} {W : World} {spare : Nat → Bool} {held : Bool} {fuel : Nat} {cs : List Value} {y : DataW H × List MemPlace}
    (hf : DataW.trod enc Try.prog W 0 spare held fuel 25 cs = some y) (hl : cs.length = 2) : ∃ x : Int × Int, cs = [.int .i32 x.1, .int .i32 x.2] ∧ In32 x.1 ∧ In32 x.2 := by
  obtain ⟨xs, n, _, _, _, hxl, hg⟩ := DataW.trod_struct Try.underlying25 hf
  match cs, hl with
  | [c0, c1], _ =>
    match xs, hxl with
    | [x0, x1], _ =>
      have g0 : DataW.trod enc Try.prog W 0 spare held n 23 [c0] = some x0 := by simpa [cells_fix] using hg 0 _ rfl
      have g1 : DataW.trod enc Try.prog W 0 spare held n 23 [c1] = some x1 := by simpa [cells_fix] using hg 1 _ rfl
      obtain ⟨k0, e0, _, w0⟩ := DataW.trod_int (k := .i32) Try.underlying23 g0
      obtain ⟨k1, e1, _, w1⟩ := DataW.trod_int (k := .i32) Try.underlying23 g1
      injection e0 with e0; injection e1 with e1
      subst e0 e1
      exact ⟨(k0, k1), rfl, bounds_i32 w0, bounds_i32 w1⟩

end Go.Proofs.Ythbncbdnpeglfaa.Sh

namespace Go.Proofs.Ythbncbdnpeglfaa.Gm
open Go.RowKit Go.ChangeShapes Go.WideShapes Go.ChangeAt Go.Deep
open Go.Proofs.Ythbncbdnpeglfaa.Sh (In32)
set_option linter.unusedVariables false

set_option maxRecDepth 100000
theorem cells_int : Try.prog.cellsOf 3 = 1 := by kernel_rfl
theorem cells_u32 : Try.prog.cellsOf 22 = 1 := by kernel_rfl
theorem cells_pls : Try.prog.cellsOf 28 = 20 := by kernel_rfl
theorem cells_shs : Try.prog.cellsOf 31 = 36 := by kernel_rfl
theorem cells_state : Try.prog.cellsOf 33 = 60 := by kernel_rfl
theorem cells_player : Try.prog.cellsOf 27 = 10 := by kernel_rfl
theorem cells_shot : Try.prog.cellsOf 30 = 6 := by kernel_rfl
theorem laid : laidOutB Try.prog = true := by kernel_rfl
theorem r32 {x : Int} (h : In32 x) : Fz.R32 x := h
theorem r64 {x : Int} (h : (Lit.int .i64 x).wf = true) : Fz.R64 x := by
  unfold Fz.R64
  exact bounds_i64 h

theorem player_cells {H : Type} {enc : TypeId × Value → H} {W : World} {spare : Nat → Bool} {held : Bool} {fuel : Nat} {cs : List Value} {y : DataW H × List MemPlace}
    (hf : DataW.trod enc Try.prog W 0 spare held fuel 27 cs = some y) (hl : cs.length = 10) : ∃ p : Pl, cs = plC p ∧ Fz.tpP p := by
  obtain ⟨xs, n, _, _, _, hxl, hg⟩ := DataW.trod_struct Try.underlying27 hf
  match cs, hl with
  | [c0, c1, c2, c3, c4, c5, c6, c7, c8, c9], _ =>
    match xs, hxl with
    | [x0, x1, x2, x3, x4, x5, x6, x7], _ =>
      have g0 : DataW.trod enc Try.prog W 0 spare held n 25 [c0, c1] = some x0 := by simpa [Sh.cells_vec] using hg 0 _ rfl
      have g1 : DataW.trod enc Try.prog W 0 spare held n 25 [c2, c3] = some x1 := by simpa [Sh.cells_vec] using hg 1 _ rfl
      have g2 : DataW.trod enc Try.prog W 0 spare held n 3 [c4] = some x2 := by simpa [cells_int] using hg 2 _ rfl
      have g3 : DataW.trod enc Try.prog W 0 spare held n 3 [c5] = some x3 := by simpa [cells_int] using hg 3 _ rfl
      have g4 : DataW.trod enc Try.prog W 0 spare held n 3 [c6] = some x4 := by simpa [cells_int] using hg 4 _ rfl
      have g5 : DataW.trod enc Try.prog W 0 spare held n 3 [c7] = some x5 := by simpa [cells_int] using hg 5 _ rfl
      have g6 : DataW.trod enc Try.prog W 0 spare held n 3 [c8] = some x6 := by simpa [cells_int] using hg 6 _ rfl
      have g7 : DataW.trod enc Try.prog W 0 spare held n 3 [c9] = some x7 := by simpa [cells_int] using hg 7 _ rfl
      obtain ⟨u, e0, a0, a1⟩ := Sh.vec_cells g0 rfl
      obtain ⟨v, e1, b0, b1⟩ := Sh.vec_cells g1 rfl
      obtain ⟨k2, e2, _, w2⟩ := DataW.trod_int (k := .i64) Try.underlying3 g2
      obtain ⟨k3, e3, _, w3⟩ := DataW.trod_int (k := .i64) Try.underlying3 g3
      obtain ⟨k4, e4, _, w4⟩ := DataW.trod_int (k := .i64) Try.underlying3 g4
      obtain ⟨k5, e5, _, w5⟩ := DataW.trod_int (k := .i64) Try.underlying3 g5
      obtain ⟨k6, e6, _, w6⟩ := DataW.trod_int (k := .i64) Try.underlying3 g6
      obtain ⟨k7, e7, _, w7⟩ := DataW.trod_int (k := .i64) Try.underlying3 g7
      injection e0 with e00 e01; injection e01 with e01; injection e1 with e10 e11; injection e11 with e11
      injection e2 with e2; injection e3 with e3; injection e4 with e4; injection e5 with e5; injection e6 with e6; injection e7 with e7
      subst e00 e01 e10 e11 e2 e3 e4 e5 e6 e7
      exact ⟨⟨u.1, u.2, v.1, v.2, k2, k3, k4, k5, k6, k7⟩, rfl, ⟨r32 a0, r32 a1, r32 b0, r32 b1⟩, r64 w2, r64 w3, r64 w4, r64 w5, r64 w6, r64 w7⟩
theorem shot_cells {H : Type} {enc : TypeId × Value → H} {W : World} {spare : Nat → Bool} {held : Bool} {fuel : Nat} {cs : List Value} {y : DataW H × List MemPlace}
    (hf : DataW.trod enc Try.prog W 0 spare held fuel 30 cs = some y) (hl : cs.length = 6) : ∃ x : Bu, cs = buC x ∧ Fz.tpB x := by
  obtain ⟨xs, n, _, _, _, hxl, hg⟩ := DataW.trod_struct Try.underlying30 hf
  match cs, hl with
  | [c0, c1, c2, c3, c4, c5], _ =>
    match xs, hxl with
    | [x0, x1, x2, x3], _ =>
      have g0 : DataW.trod enc Try.prog W 0 spare held n 25 [c0, c1] = some x0 := by simpa [Sh.cells_vec] using hg 0 _ rfl
      have g1 : DataW.trod enc Try.prog W 0 spare held n 25 [c2, c3] = some x1 := by simpa [Sh.cells_vec] using hg 1 _ rfl
      have g2 : DataW.trod enc Try.prog W 0 spare held n 3 [c4] = some x2 := by simpa [cells_int] using hg 2 _ rfl
      have g3 : DataW.trod enc Try.prog W 0 spare held n 3 [c5] = some x3 := by simpa [cells_int] using hg 3 _ rfl
      obtain ⟨u, e0, a0, a1⟩ := Sh.vec_cells g0 rfl
      obtain ⟨v, e1, b0, b1⟩ := Sh.vec_cells g1 rfl
      obtain ⟨k2, e2, _, w2⟩ := DataW.trod_int (k := .i64) Try.underlying3 g2
      obtain ⟨k3, e3, _, w3⟩ := DataW.trod_int (k := .i64) Try.underlying3 g3
      injection e0 with e00 e01; injection e01 with e01; injection e1 with e10 e11; injection e11 with e11
      injection e2 with e2; injection e3 with e3
      subst e00 e01 e10 e11 e2 e3
      exact ⟨⟨u.1, u.2, v.1, v.2, k2, k3⟩, rfl, ⟨r32 a0, r32 a1, r32 b0, r32 b1⟩, r64 w2, r64 w3⟩
theorem cut_at (l : List Value) (a n : Nat) : l.drop a = (l.drop a).take n ++ l.drop (a + n) := by rw [← List.drop_drop, List.take_append_drop]
theorem state_cells {H : Type} {enc : TypeId × Value → H} {W : World} {spare : Nat → Bool} {held : Bool} {fuel : Nat} {cs : List Value} {y : DataW H × List MemPlace}
    (hf : DataW.trod enc Try.prog W 0 spare held fuel 33 cs = some y) (hl : cs.length = 60) : ∃ s : St, cs = stC s ∧ Fz.Ty s := by
  obtain ⟨xs, n, _, _, _, hxl, hg⟩ := DataW.trod_struct Try.underlying33 hf
  match xs, hxl with
  | [x0, x1, x2, x3, x4, x5], _ =>
    have g0 : DataW.trod enc Try.prog W 0 spare held n 3 ((cs.drop 0).take 1) = some x0 := by have h := hg 0 _ rfl; change DataW.trod _ _ _ _ _ _ n 3 ((cs.drop 0).take (Try.prog.cellsOf 3)) = some x0 at h; rw [cells_int] at h; exact h
    have g1 : DataW.trod enc Try.prog W 0 spare held n 22 ((cs.drop 1).take 1) = some x1 := by have h := hg 1 _ rfl; change DataW.trod _ _ _ _ _ _ n 22 ((cs.drop 1).take (Try.prog.cellsOf 22)) = some x1 at h; rw [cells_u32] at h; exact h
    have g2 : DataW.trod enc Try.prog W 0 spare held n 3 ((cs.drop 2).take 1) = some x2 := by have h := hg 2 _ rfl; change DataW.trod _ _ _ _ _ _ n 3 ((cs.drop 2).take (Try.prog.cellsOf 3)) = some x2 at h; rw [cells_int] at h; exact h
    have g3 : DataW.trod enc Try.prog W 0 spare held n 3 ((cs.drop 3).take 1) = some x3 := by have h := hg 3 _ rfl; change DataW.trod _ _ _ _ _ _ n 3 ((cs.drop 3).take (Try.prog.cellsOf 3)) = some x3 at h; rw [cells_int] at h; exact h
    have g4 : DataW.trod enc Try.prog W 0 spare held n 28 ((cs.drop 4).take 20) = some x4 := by have h := hg 4 _ rfl; change DataW.trod _ _ _ _ _ _ n 28 ((cs.drop 4).take (Try.prog.cellsOf 28)) = some x4 at h; rw [cells_pls] at h; exact h
    have g5 : DataW.trod enc Try.prog W 0 spare held n 31 ((cs.drop 24).take 36) = some x5 := by have h := hg 5 _ rfl; change DataW.trod _ _ _ _ _ _ n 31 ((cs.drop 24).take (Try.prog.cellsOf 31)) = some x5 at h; rw [cells_shs] at h; exact h
    obtain ⟨k0, e0, _, w0⟩ := DataW.trod_int (k := .i64) Try.underlying3 g0
    obtain ⟨k1, e1, _, w1⟩ := DataW.trod_int (k := .u32) Try.underlying22 g1
    obtain ⟨k2, e2, _, w2⟩ := DataW.trod_int (k := .i64) Try.underlying3 g2
    obtain ⟨k3, e3, _, w3⟩ := DataW.trod_int (k := .i64) Try.underlying3 g3
    obtain ⟨ys, m, _, _, _, hyl, hy⟩ := DataW.trod_array Try.underlying28 g4
    obtain ⟨zs, m', _, _, _, hzl, hz⟩ := DataW.trod_array Try.underlying31 g5
    match ys, hyl, zs, hzl with
    | [y0, y1], _, [z0, z1, z2, z3, z4, z5], _ =>
      have pl : ∀ (j : Nat) (y : DataW H × List MemPlace), j < 2 → DataW.trod enc Try.prog W 0 spare held m 27 ((((cs.drop 4).take 20).drop (j * Try.prog.cellsOf 27)).take (Try.prog.cellsOf 27)) = some y → ∃ p : Pl, (cs.drop (4 + j * 10)).take 10 = plC p ∧ Fz.tpP p := by
        intro j y hj h
        rw [cells_player] at h
        have e : (((cs.drop 4).take 20).drop (j * 10)).take 10 = (cs.drop (4 + j * 10)).take 10 := by
          rw [List.drop_take, List.take_take, List.drop_drop, Nat.min_eq_left (by omega)]
        rw [e] at h
        exact player_cells h (by rw [List.length_take, List.length_drop]; omega)
      have sh : ∀ (j : Nat) (y : DataW H × List MemPlace), j < 6 → DataW.trod enc Try.prog W 0 spare held m' 30 ((((cs.drop 24).take 36).drop (j * Try.prog.cellsOf 30)).take (Try.prog.cellsOf 30)) = some y → ∃ p : Bu, (cs.drop (24 + j * 6)).take 6 = buC p ∧ Fz.tpB p := by
        intro j y hj h
        rw [cells_shot] at h
        have e : (((cs.drop 24).take 36).drop (j * 6)).take 6 = (cs.drop (24 + j * 6)).take 6 := by
          rw [List.drop_take, List.take_take, List.drop_drop, Nat.min_eq_left (by omega)]
        rw [e] at h
        exact shot_cells h (by rw [List.length_take, List.length_drop]; omega)
      obtain ⟨p0, q0, t0⟩ := pl 0 y0 (by decide) (hy 0 (by decide))
      obtain ⟨p1, q1, t1⟩ := pl 1 y1 (by decide) (hy 1 (by decide))
      obtain ⟨s0, r0, u0⟩ := sh 0 z0 (by decide) (hz 0 (by decide))
      obtain ⟨s1, r1, u1⟩ := sh 1 z1 (by decide) (hz 1 (by decide))
      obtain ⟨s2, r2, u2⟩ := sh 2 z2 (by decide) (hz 2 (by decide))
      obtain ⟨s3, r3, u3⟩ := sh 3 z3 (by decide) (hz 3 (by decide))
      obtain ⟨s4, r4, u4⟩ := sh 4 z4 (by decide) (hz 4 (by decide))
      obtain ⟨s5, r5, u5⟩ := sh 5 z5 (by decide) (hz 5 (by decide))
      have b1 := bounds_u32 w1
      refine ⟨⟨k0, k1, k2, k3, p0, p1, s0, s1, s2, s3, s4, s5⟩, ?_, ⟨r64 w0, ⟨b1.1, by show k1 ≤ 4294967295; omega⟩, r64 w2, r64 w3, fun t => ?_, fun t => ?_⟩⟩
      all_goals first | (unfold plS; split <;> assumption) | (unfold shS; split <;> assumption) | skip
      have hend : cs.drop 60 = [] := List.drop_eq_nil_of_le (by omega)
      have h0 : cs = cs.drop 0 := rfl
      rw [h0, cut_at cs 0 1, e0, cut_at cs 1 1, e1, cut_at cs 2 1, e2, cut_at cs 3 1, e3, cut_at cs 4 10, q0, cut_at cs 14 10, q1, cut_at cs 24 6, r0, cut_at cs 30 6, r1, cut_at cs 36 6, r2, cut_at cs 42 6, r3, cut_at cs 48 6, r4, cut_at cs 54 6, r5, hend]
      rfl

/-- a state that came in. -/
theorem open_state {H : Type} {enc : TypeId × Value → H} {W : World} {r : Reach} {b0 : Nat} {spare : Nat → Bool} {held : Bool} {v : Value} {d : DataW H} {p : List MemPlace}
    (hv : Value.okWide Try.prog W r b0 33 v) (h : DataW.Trod enc Try.prog W 0 spare held 33 v d p) : ∃ s : St, v = .agg (stC s).toArray ∧ Fz.Ty s := by
  obtain ⟨cs, rfl, hsz⟩ := okWide_struct Try.underlying33 hv
  rw [cells_state] at hsz
  obtain ⟨fuel, hf⟩ := h
  obtain ⟨s, e, hs⟩ := state_cells hf (by simpa [Value.cells] using hsz)
  refine ⟨s, ?_, hs⟩
  have e2 : cs = (stC s).toArray := by
    apply Array.ext'
    simpa [Value.cells] using e
  rw [e2]

end Go.Proofs.Ythbncbdnpeglfaa.Gm
