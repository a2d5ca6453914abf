/- What List of layer 4's rings returns: a new list of all things, in order; nothing that lay has turned. -/
/- What Frames of a window of states returns: a new list, as long as the window's. -/
import Derived.RangeFuncBox
import Derived.RangeFuncNested
import Derived.RangeFuncBound
import Derived.RangeFuncCalls
import Derived.RangeFuncLeaves
import Derived.Shelf.Abstract
import Derived.OwnWalkIn
import Derived.TacticsInMore
import Derived.LoopNIn
import Derived.LoopIn
import Derived.Test.YtfclnhmijjlhdaaGreatDoorJ14
import Derived.Test.YtfclnhmijjlhdaaGreatDoorJ21
namespace Go.Proofs.YtfclnhmijjlhdaaGreatDoor.Ru
open Rg
open Go.RowKit Go.Shelf
set_option linter.unusedVariables false
set_option maxRecDepth 100000

attribute [local go_sem] Oper.semAt_some

/-- what has come when k rounds are over. -/
def upto {α : Type} (f : Nat → α) (k : Nat) : List α := (List.range k).map f
theorem upto_succ {α : Type} (f : Nat → α) (k : Nat) : upto f (k + 1) = upto f k ++ [f k] := by simp [upto, List.range_succ]
theorem upto_length {α : Type} (f : Nat → α) (k : Nat) : (upto f k).length = k := by simp [upto]
theorem upto_all (zs : List Int) : upto (fun j => zs[j]?.getD 0) zs.length = zs := by
 apply List.ext_getElem
 · simp [upto]
 · intro i h1 h2
   simp [upto, h2]
theorem upto_take (zs : List Int) {k : Nat} (hk : k ≤ zs.length) : upto (fun j => zs[j]?.getD 0) k = zs.take k := by
 apply List.ext_getElem
 · simp [upto, hk]
 · intro i h1 h2
   have : i < zs.length := by simp [upto] at h1; omega
   simp [upto, this]

/-- what a round keeps: all that lay below n₀, and one box. -/
def KpB (n₀ B : Nat) (W W' : World) : Prop := Below n₀ W W' ∧ W'.heap[B]? = W.heap[B]?
theorem kpB_t {n₀ B : Nat} {X Y Z : World} (h : KpB n₀ B X Y) (k : KpB n₀ B Y Z) : KpB n₀ B X Z := ⟨h.1.trans k.1, k.2.trans h.2⟩
theorem kpB_b {n₀ B : Nat} {w : World} (hn : n₀ ≤ w.heap.size) (hB : B < w.heap.size) (W : World) (l : Nat) (o o' : Obj) (hl : w.heap.size ≤ l) (h : W.heap[l]? = some o) (h1 : o.isCells = false) (h2 : o.isWalk = false) : KpB n₀ B W (W.putObj l o') := by
 have hlt := (Array.getElem?_eq_some_iff.1 h).1
 exact ⟨belowK_b hn W l o o' hl h h1 h2, (grownBy_putObj' W l o').block B (by omega) (fun e => by cases e; omega)⟩

/-- the ring behind the pointer p, in blocks below n₀, has the things l; or it is nil and there are none. -/
def Src (n₀ : Nat) (W : World) (p : Option Addr) (l : List Int) : Prop :=
 (p = none ∧ l = []) ∨ ∃ b ao cap g, p = some ⟨b, 0, none⟩ ∧ b < n₀ ∧ W.cell? ⟨b, 1, none⟩ = some (.slice ao l.length cap) ∧ ∀ j, j < l.length → ao = some ⟨g, 0, none⟩ ∧ g < n₀ ∧ W.cell? ⟨g, j, none⟩ = some (.int .u8 (l[j]?.getD 0))
theorem Src.below {n₀ : Nat} {X Y : World} (h : Below n₀ X Y) {p : Option Addr} {l : List Int} : Src n₀ X p l → Src n₀ Y p l
 | .inl e => .inl e
 | .inr ⟨b, ao, cap, g, e, hb, hc, hr⟩ => .inr ⟨b, ao, cap, g, e, hb, (h.cell (p := ⟨b, 1, none⟩) hb).trans hc, fun j hj => ⟨(hr j hj).1, (hr j hj).2.1, (h.cell (p := ⟨g, j, none⟩) (hr j hj).2.1).trans (hr j hj).2.2⟩⟩
theorem Src.of {w : World} {n₀ t b size cap : Nat} {ao : Option Addr} {l : List Int} (h : Ring w n₀ t b size ao cap l) : Src w.heap.size w (some ⟨b, 0, none⟩) l := by
 refine .inr ⟨b, ao, cap, (match ao with | some a => a.block | none => 0), rfl, h.lt, by simpa using h.cell 1, fun j hj => ?_⟩
 obtain ⟨g, rfl, hc⟩ := row_cell h.row j hj
 exact ⟨rfl, h.footLt g (.inr ⟨_, rfl, rfl⟩), hc⟩

set_option maxRecDepth 100000 in
set_option maxHeartbeats 2000000 in
theorem each1_in (n : Nat) (hn : 1 ≤ n) (l Bn n₀ b cap g : Nat) (ao : Option Addr) (zs : List Int) (hz : zs.length ≤ 9000000) (hb : b < n₀) (J Jx : List Int → World → Prop)
 (hY : ∀ pre x W, J pre W → pre.length < zs.length → YieldAt Fence.wide (n - 1) Tryz.prog l #[.int .u8 x] W fun e W' =>
  (e = .returned (.bool true) ∧ J (pre ++ [x]) W' ∧ KpB n₀ Bn W W') ∨ (e = .returned (.bool false) ∧ Jx (pre ++ [x]) W'))
 (W : World) (hBn : W.cell? ⟨Bn, 0, none⟩ = some (.pointer (some ⟨b, 0, none⟩))) (hc : W.cell? ⟨b, 1, none⟩ = some (.slice ao zs.length cap))
 (hr : ∀ j, j < zs.length → ao = some ⟨g, 0, none⟩ ∧ g < n₀ ∧ W.cell? ⟨g, j, none⟩ = some (.int .u8 (zs[j]?.getD 0))) (h0 : J [] W) :
 CallsIn Fence.wide n Tryz.prog 190 #[.func (.yield l) #[] #[], .pointer (some ⟨Bn, 0, none⟩)] W fun e W' => (∃ v, e = .returned v) ∧
  ((∃ ys, ys = upto (fun j => zs[j]?.getD 0) zs.length ∧ J ys W') ∨ (∃ pre, (∃ k, k ≤ zs.length ∧ pre = upto (fun j => zs[j]?.getD 0) k) ∧ Jx pre W')) := by
 refine callsIn_of_wp Tryz.func190 rfl trivial ?_ rfl
 simp only [Tryz.ntmps190, List.size_toArray, List.length_cons, List.length_nil, Nat.reduceAdd, Nat.reduceSub, Array.replicate_succ, Array.replicate_zero, List.push_toArray, List.append_toArray, List.nil_append, List.cons_append]
 gi_wp2_with (refine ⟨trivial, ?_⟩; gi_at_call 118; refine (callsIn_wide.2 (len_c _ _ _ _ _ hc)).mono ?_; rintro e w' ⟨rfl, rfl⟩)
 gi_loopw [6] (fun i wr => ∃ k : Nat, k ≤ zs.length ∧ i = .int .i64 k ∧ J (upto (fun j => zs[j]?.getD 0) k) wr ∧ KpB n₀ Bn W wr)
  (fun i _ => zs.length - (intOf i).toNat)
 case atStart => exact ⟨0, Nat.zero_le _, rfl, h0, Below.refl _ _, rfl⟩
 case round =>
  obtain ⟨k, hk, rfl, hJs, hnx, hbx⟩ := hrel
  by_cases hlt : k < zs.length
  · obtain ⟨y, Y⟩ : ∃ y, Hid (zs[k]?.getD 0 = y) := ⟨_, rfl⟩
    obtain ⟨fn, tmps, assign, body, hy, hR⟩ := hY _ y wr hJs (by rw [upto_length]; exact hlt)
    obtain ⟨rfl, hg, hcx⟩ := hr k hlt
    rw [Y.out] at hcx
    have hcx' := (hnx.cell (p := ⟨g, k, none⟩) hg).trans hcx
    have hc' := (hnx.cell (p := ⟨b, 1, none⟩) hb).trans hc
    have hBn' := (World.cell?_of_block (a := ⟨Bn, 0, none⟩) hbx).trans hBn
    gi_wp2
    refine hR.mono ?_
    rintro e W3 (⟨rfl, hJ3, hk3⟩ | ⟨rfl, hJx3⟩)
    · gi_wp2
      go_roundw
      case rel => exact ⟨k + 1, by omega, by simp, by rw [upto_succ]; show J (_ ++ [zs[k]?.getD 0]) _; rw [Y.out]; exact hJ3, kpB_t ⟨hnx, hbx⟩ hk3⟩
      case measure => simp [intOf]; omega
    · gi_wp2
      refine bodyPost_ret (results_none rfl _ _ _) rfl ?_
      exact ⟨⟨_, rfl⟩, .inr ⟨_, ⟨k + 1, by omega, by rw [upto_succ]; show _ = _ ++ [zs[k]?.getD 0]; rw [Y.out]⟩, hJx3⟩⟩
  · obtain rfl : k = zs.length := by omega
    gi_wp2
    go_end0
    exact ⟨⟨_, rfl⟩, .inl ⟨_, rfl, hJs⟩⟩

set_option maxRecDepth 100000 in
set_option maxHeartbeats 1000000 in
theorem each1_nil (n l Bn : Nat) (hn : 1 ≤ n) (J : List Int → World → Prop) (W : World) (hBn : W.cell? ⟨Bn, 0, none⟩ = some (.pointer none)) (h0 : J [] W) :
 CallsIn Fence.wide n Tryz.prog 190 #[.func (.yield l) #[] #[], .pointer (some ⟨Bn, 0, none⟩)] W fun e W' => (∃ v, e = .returned v) ∧ J [] W' := by
 refine callsIn_of_wp Tryz.func190 rfl trivial ?_ rfl
 simp only [Tryz.ntmps190, List.size_toArray, List.length_cons, List.length_nil, Nat.reduceAdd, Nat.reduceSub, Array.replicate_succ, Array.replicate_zero, List.push_toArray, List.append_toArray, List.nil_append, List.cons_append]
 gi_wp2_with (refine ⟨trivial, ?_⟩; gi_at_call 118; refine (callsIn_wide.2 (len_nil _)).mono ?_; rintro e w' ⟨rfl, rfl⟩)
 gi_loopw [6] (fun i wr => i = .int .i64 0 ∧ J [] wr) (fun _ _ => 0)
 case atStart => exact ⟨rfl, h0⟩
 case round =>
  obtain ⟨rfl, hJs⟩ := hrel
  gi_wp2
  go_end0
  exact ⟨⟨_, rfl⟩, hJs⟩

theorem each_in (n : Nat) (p0 : Option Addr) (w : World) :
 CallsIn Fence.wide n Tryz.prog 154 #[.pointer p0] w fun e w' => e = .returned (.func (.func 190) #[] #[.pointer (some ⟨w.heap.size, 0, none⟩)]) ∧ w' = w.alloc (.cells #[.pointer p0] 134) := by
 refine callsIn_of_wp Tryz.func154 rfl trivial ?_ rfl
 simp only [Tryz.ntmps154, List.size_toArray, List.length_cons, List.length_nil, Nat.reduceAdd, Nat.reduceSub, Array.replicate_succ, Array.replicate_zero, List.push_toArray, List.append_toArray, List.nil_append, List.cons_append]
 gi_wp2
 go_ret
 exact ⟨rfl, rfl⟩

theorem each_stops (n : Nat) (hn : 1 ≤ n) (Bn n₀ : Nat) (p0 : Option Addr) (zs : List Int) (hz : zs.length ≤ 9000000) (w : World) (hBn : Bn < w.heap.size) (hn₀ : n₀ ≤ w.heap.size)
 (hc : w.cell? ⟨Bn, 0, none⟩ = some (.pointer p0)) (hS : Src n₀ w p0 zs) :
 SeqStopsK Fence.wide n Tryz.prog 190 #[.pointer (some ⟨Bn, 0, none⟩)] (fun x : Int => #[Value.int .u8 x]) (KpB n₀ Bn) (fun ys => ys = zs) (fun pre => pre <+: zs) zs.length w := fun l J Jx W hW _ _ hY h0 => by
 have hc' := (hW.cell (p := ⟨Bn, 0, none⟩) hBn).trans hc
 rcases hS.below (hW.mono hn₀) with ⟨rfl, rfl⟩ | ⟨b, ao, cap, g, rfl, hb, hcs, hr⟩
 · exact (each1_nil n l Bn hn J W hc' h0).mono fun e W' ⟨he, hj⟩ => ⟨he, .inl ⟨_, rfl, hj⟩⟩
 · refine (each1_in n hn l Bn n₀ b cap g ao zs hz hb J Jx hY W hc' hcs hr h0).mono ?_
   rintro e W' ⟨he, ⟨ys, rfl, hj⟩ | ⟨pre, ⟨k, hk, rfl⟩, hj⟩⟩
   · exact ⟨he, .inl ⟨_, upto_all zs, hj⟩⟩
   · exact ⟨he, .inr ⟨_, by rw [upto_take zs hk]; exact List.take_prefix _ _, hj⟩⟩

set_option maxRecDepth 100000 in
set_option maxHeartbeats 2000000 in
theorem list_in (p0 : Option Addr) (zs : List Int) (hz : zs.length ≤ 9000000) (w : World) (hS : Src w.heap.size w p0 zs) :
 CallsIn Fence.wide 3 Tryz.prog 117 #[.pointer p0] w fun e W' => ∃ ao cap, e = .returned (.slice ao zs.length cap) ∧ W'.ownsRow w.heap.size 5 1 (.slice ao zs.length cap) zs.length (ints zs) ∧ Below w.heap.size w W' := by
 obtain ⟨i0, hi, hz0, hz1, hz2⟩ := info_parts info_u8
 refine callsIn_of_wp_marks Tryz.func117 rfl trivial ?_ rfl
 simp only [Tryz.ntmps117, List.size_toArray, List.length_cons, List.length_nil, Nat.reduceAdd, Nat.reduceSub, Array.replicate_succ, Array.replicate_zero, List.push_toArray, List.append_toArray, List.nil_append, List.cons_append]
 gi_wp2_with (refine ⟨trivial, ?_⟩; gi_at_call 154; refine (each_in _ _ _).mono ?_; rintro e w' ⟨rfl, rfl⟩)
 have bO := Boxed.new w 41 (.slice none 0 0)
 have bN := Boxed.new (w.alloc (.cells #[.slice none 0 0] 41)) 134 (.pointer p0)
 rw [World.size_alloc] at bN
 have hB0 : Below w.heap.size w ((w.alloc (.cells #[.slice none 0 0] 41)).alloc (.cells #[.pointer p0] 134)) := ((Below.refl _ w).alloc (Nat.le_refl _) _).alloc (by simp) _
 refine wpIn_rangeFunc_ownG rfl (by omega) (gf := 190) (lb := #[.pointer (some ⟨w.heap.size + 1, 0, none⟩)]) rfl trivial (enters_of Tryz.func190 (by kernel_rfl) rfl)
  (each_stops _ (by omega) (w.heap.size + 1) w.heap.size p0 zs hz _ (by simp) (by simp; omega) bN.cell (hS.below hB0)) kpB_t (kpB_b (by simp; omega) (by simp)) (Below.refl _ _) (fun _ => rfl)
  (fun pre W => ((∃ v, Boxed W w.heap.size 41 v ∧ W.ownsRow w.heap.size 5 1 v pre.length (ints pre) ∧ True) ∧ Boxed W (w.heap.size + 1) 134 (.pointer p0)) ∧ Below w.heap.size w W)
  (fun _ _ _ => False)
  (OwnFrom.and (OwnFrom.and (Own.from (holdsRow_own w.heap.size w.heap.size 41 5 1 (fun pre : List Int => pre.length) (fun pre => ints pre) (fun _ _ => True)) _) (Own.from (boxed_own _ _ (fun _ => Value.pointer p0)) _)) (ownFrom_below (Nat.le_refl _) (by simp; omega)))
  (fun _ _ _ _ _ hs _ _ => hs)
  ⟨⟨⟨_, bO.alloc _, World.ownsRow_nil _ _ _ _, trivial⟩, bN⟩, hB0⟩
  (fun x => { tmps := #[.pointer p0, undef, .slice none 0 0, .pointer (some ⟨w.heap.size, 0, none⟩), .int .u8 x, .pointer p0, .func (.func 190) #[] #[.pointer (some ⟨w.heap.size + 1, 0, none⟩)], .int .u8 x, undef, undef, undef, undef, undef], defers := [] }) ?assign ?body ?done ?stop
 case assign =>
  intro l x W K hK
  gi_wp2
  exact hK
 case body =>
  rintro l pre x W ⟨⟨⟨v, hv, hrow, -⟩, hbx⟩, hB⟩ hlt
  have hc := hv.cell
  gi_wp2_with (gi_at_builtin; refine wpListIn_append_own _ rfl _ _ 41 rfl w.heap.size 5 i0 (.int .u8 0) 1 1 Tryz.underlying41 hi hz0 hz1 hz2 rfl (by decide) _ _ _ rfl (hrow.alloc _) ⟨W.heap.size, 0, none⟩ 1 1 [.int .u8 x] rfl rfl (cell_one_new _ _ _) (by simp [Value.oneCell']) (by unfold maxLen; omega) (by omega) (by have := hB.size; simp; omega) ?_; intro v' w1 hown' hgrow _; obtain ⟨g', cap', rfl⟩ := ownsRow_succ hown'; obtain ⟨hv1, hv2, hr2, hk2, hb2⟩ := hv.appended (by decide) hrow hB.size (Nat.le_refl _) hown' hgrow; have hbx1 := (hbx.alloc (.cells #[.int .u8 x] 5)).kept hgrow (hbx.not_row (by decide) hrow); have hbx2 := hbx1.other (B' := w.heap.size) (by omega) (.slice (some ⟨g', 0, none⟩) (pre.length + 1) cap'); have hc1 := hv1.cell; have hf1 := hv1.frozen)
  exact ⟨hk2.from _, ⟨hb2, Eq.trans hbx2 (Eq.symm hbx)⟩, ⟨⟨_, hv2, by rw [ints_snoc]; simpa using hr2, trivial⟩, hbx2⟩, hB.trans hb2⟩
 case done =>
  rintro D ys W hD rfl ⟨⟨⟨v, hv, hrow, -⟩, hbx⟩, hB⟩ hK
  have hc := hv.cell
  obtain ⟨ao, cap, rfl⟩ := row_form hrow
  gi_wp2
  refine ⟨by simp, .inl ⟨_, _, rfl, run_takeDeferred hK, ?_⟩⟩
  exact ⟨_, results_tmp rfl _ _ _, ao, cap, rfl, ownsRow_putObj hrow _ hK rfl, hB.trans (belowK_b (w := w) (Nat.le_refl _) W D _ _ (by simp at hD; omega) hK rfl rfl)⟩
 case stop =>
  rintro D c pre W _ _ h _
  exact h.elim

theorem list_c (n₀ b size cap : Nat) (ao : Option Addr) (l : List Int) (w : World) (h : Ring w n₀ 174 b size ao cap l) (hl : l.length ≤ 9000000) :
 Calls Tryz.prog 117 #[.pointer (some ⟨b, 0, none⟩)] w fun e w' => ∃ ao cap, e = .returned (.slice ao l.length cap) ∧ w'.ownsRow w.heap.size 5 1 (.slice ao l.length cap) l.length (ints l) ∧ Below w.heap.size w w' :=
 callsIn_wide.1 (list_in _ l hl w (Src.of h))

theorem list_nil (w : World) :
 Calls Tryz.prog 117 #[.pointer none] w fun e w' => ∃ ao cap, e = .returned (.slice ao 0 cap) ∧ Below w.heap.size w w' :=
 (callsIn_wide.1 (list_in none [] (by simp) w (.inl ⟨rfl, rfl⟩))).mono fun e w' ⟨ao, cap, he, _, hb⟩ => ⟨ao, cap, he, hb⟩

end Go.Proofs.YtfclnhmijjlhdaaGreatDoor.Ru

namespace Go.Proofs.YtfclnhmijjlhdaaGreatDoor.Sw
open Rg
open Go.RowKit Go.Shelf
open Go.Proofs.YtfclnhmijjlhdaaGreatDoor.Gm (St stC zeroS run_loadVar_at run_storeVar_at)
open Go.Proofs.YtfclnhmijjlhdaaGreatDoor.Ev (At)
open Go.Proofs.YtfclnhmijjlhdaaGreatDoor.Ru (upto upto_succ upto_length upto_all upto_take KpB kpB_t kpB_b)
set_option linter.unusedVariables false
set_option maxRecDepth 100000

theorem fold_ld2 (v : Value) : Instr.loadAt 132 v = LD 132 v := rfl
theorem fold_sd2 (p v : Value) : Instr.storeAt 132 p v = SD 132 p v := rfl
theorem fold_al2 : Instr.alloc 132 true (.tuple #[]) = AL 132 := rfl
theorem al_frame (W : World) : (AL 132).run Tryz.prog W = .ok (.pointer (some ⟨W.heap.size, 0, none⟩)) (W.alloc (.cells (frC (0, zeroS)).toArray 132)) := by kernel_rfl
theorem ld_frame {W : World} {g k : Nat} {cur : Array Value} {p : Int × St} (hg : W.heap[g]? = some (.cells cur 132 (0, 0))) (hv : ∀ j v, (frC p)[j]? = some v → cur[k + j]? = some v) :
 (LD 132 (.pointer (some ⟨g, k, none⟩))).run Tryz.prog W = .ok (.agg (frC p).toArray) W := by
 have h := run_loadVar_at (P := Tryz.prog) W g k 132 132 cur (frC p) (0, 0) _ hg Tryz.underlying132 rfl (by kernel_rfl) hv
 unfold LD
 simp only [Instr.loadAt, Instr.sureAddr, Sem.run_bind, Sem.run_pure, Result.andThen_ok, h]
theorem sd_frame (W : World) (p : Int × St) : (SD 132 (.pointer (some ⟨W.heap.size, 0, none⟩)) (.agg (frC p).toArray)).run Tryz.prog (W.alloc (.cells (frC (0, zeroS)).toArray 132)) = .ok () ((W.alloc (.cells (frC (0, zeroS)).toArray 132)).setRow W.heap.size (frC p).toArray) := by
 have h := run_storeVar_at (P := Tryz.prog) (W.alloc (.cells (frC (0, zeroS)).toArray 132)) W.heap.size 0 132 132 _ (frC p) (heap_alloc_new W _) (by kernel_rfl) (by show 0 + 61 ≤ 61; decide) (frC_one p)
 have e : (((frC (0, zeroS)).toArray.toList.take 0 ++ frC p ++ (frC (0, zeroS)).toArray.toList.drop (0 + (frC p).length)).toArray) = (frC p).toArray := by
  rw [List.take_zero, List.nil_append, List.drop_eq_nil_of_le (by show 61 ≤ 0 + 61; decide), List.append_nil]
 rw [e] at h
 unfold SD
 simp only [Instr.storeAt, Instr.sureAddr, Sem.run_bind, Sem.run_pure, Result.andThen_ok, h]
/-- a new block, with such cells. -/
theorem new_frame (W : World) (p : Int × St) (W' : World) (hW : W' = (W.alloc (.cells (frC (0, zeroS)).toArray 132)).setRow W.heap.size (frC p).toArray) : W.grownBy W' none ∧ Below W.heap.size W W' ∧ W'.cell? ⟨W.heap.size, 0, none⟩ = some (.int .i64 p.1) ∧ W.heap.size < W'.heap.size := by
 have hb : Below W.heap.size W W' := by rw [hW]; exact Gm.below_row (Ev.bal (Ev.br W) _) (Nat.le_refl _) _
 have ha : At W' W.heap.size (frC p).toArray 132 := by rw [hW]; exact Gm.at_row (At.new W _ _) _
 refine ⟨⟨hb.os, hb.tape, hb.output, hb.size, fun k hk _ => hb.block k hk⟩, hb, ?_, (Array.getElem?_eq_some_iff.1 ha).1⟩
 rw [cell_of_row _ _ _ _ _ _ ha]; rfl
theorem info_int : (Tryz.prog.info? 3).map (fun i => (i.zero, i.size, i.bytes)) = some (some (.int .i64 0), 1, 8) := by kernel_rfl
attribute [local go_sem ↓] fold_ld2 fold_sd2 fold_al2
attribute [local go_sem] al_frame sd_frame

attribute [local go_sem] Oper.semAt_some

/-- the window behind the pointer p, in blocks below n₀, has the states l; or it is nil and there are none. -/
def WSrc (n₀ : Nat) (W : World) (p : Option Addr) (l : List (Int × St)) : Prop :=
 (p = none ∧ l = []) ∨ ∃ b ao cap g cur, p = some ⟨b, 0, none⟩ ∧ b < n₀ ∧ W.cell? ⟨b, 2, none⟩ = some (.slice ao l.length cap) ∧ ∀ j p, l[j]? = some p → ao = some ⟨g, 0, none⟩ ∧ g < n₀ ∧ W.heap[g]? = some (.cells cur 132 (0, 0)) ∧ ∀ t v, (frC p)[t]? = some v → cur[j * 61 + t]? = some v
theorem WSrc.below {n₀ : Nat} {X Y : World} (h : Below n₀ X Y) {p : Option Addr} {l : List (Int × St)} : WSrc n₀ X p l → WSrc n₀ Y p l
 | .inl e => .inl e
 | .inr ⟨b, ao, cap, g, cur, e, hb, hc, hr⟩ => .inr ⟨b, ao, cap, g, cur, e, hb, (h.cell (p := ⟨b, 2, none⟩) hb).trans hc, fun j p hj => by
  obtain ⟨h1, h2, h3, h4⟩ := hr j p hj
  exact ⟨h1, h2, (h.block g h2).trans h3, h4⟩⟩

set_option maxRecDepth 100000 in
set_option maxHeartbeats 2000000 in
theorem weach1_in (n : Nat) (hn : 1 ≤ n) (l Bn n₀ b cap g : Nat) (ao : Option Addr) (cur : Array Value) (l0 : List (Int × St)) (zs : List Int) (e0 : l0.map (·.1) = zs) (hz : zs.length ≤ 9000000) (hb : b < n₀) (J Jx : List Int → World → Prop)
 (W : World) (hnW : n₀ ≤ W.heap.size) (hBW : Bn < W.heap.size) (hJ : AbidesFrom W.heap.size J)
 (hY : ∀ pre x W, J pre W → pre.length < zs.length → YieldAt Fence.wide (n - 1) Tryz.prog l #[.int .i64 x] W fun e W' =>
  (e = .returned (.bool true) ∧ J (pre ++ [x]) W' ∧ KpB n₀ Bn W W') ∨ (e = .returned (.bool false) ∧ Jx (pre ++ [x]) W'))
 (hBn : W.cell? ⟨Bn, 0, none⟩ = some (.pointer (some ⟨b, 0, none⟩))) (hc : W.cell? ⟨b, 2, none⟩ = some (.slice ao zs.length cap))
 (hr : ∀ j p, l0[j]? = some p → ao = some ⟨g, 0, none⟩ ∧ g < n₀ ∧ W.heap[g]? = some (.cells cur 132 (0, 0)) ∧ ∀ t v, (frC p)[t]? = some v → cur[j * 61 + t]? = some v) (h0 : J [] W) :
 CallsIn Fence.wide n Tryz.prog 150 #[.func (.yield l) #[] #[], .pointer (some ⟨Bn, 0, none⟩)] W fun e W' => (∃ v, e = .returned v) ∧
  ((∃ ys, ys = upto (fun j => zs[j]?.getD 0) zs.length ∧ J ys W') ∨ (∃ pre, (∃ k, k ≤ zs.length ∧ pre = upto (fun j => zs[j]?.getD 0) k) ∧ Jx pre W')) := by
 refine callsIn_of_wp Tryz.func150 rfl trivial ?_ rfl
 simp only [Tryz.ntmps150, List.size_toArray, List.length_cons, List.length_nil, Nat.reduceAdd, Nat.reduceSub, Array.replicate_succ, Array.replicate_zero, List.push_toArray, List.append_toArray, List.nil_append, List.cons_append]
 gi_wp2
 gi_loopw [12] (fun i wr => ∃ k : Nat, k ≤ zs.length ∧ i = .int .i64 k ∧ J (upto (fun j => zs[j]?.getD 0) k) wr ∧ KpB n₀ Bn W wr)
  (fun i _ => zs.length - (intOf i).toNat)
 case atStart => exact ⟨0, Nat.zero_le _, rfl, h0, Below.refl _ _, rfl⟩
 case round =>
  obtain ⟨k, hk, rfl, hJs, hnx, hbx⟩ := hrel
  by_cases hlt : k < zs.length
  · obtain ⟨y, Y⟩ : ∃ y, Hid (zs[k]?.getD 0 = y) := ⟨_, rfl⟩
    obtain ⟨p, hp⟩ : ∃ p, l0[k]? = some p := ⟨l0[k]'(by rw [← e0] at hlt; simpa using hlt), List.getElem?_eq_getElem _⟩
    have hpy : p.1 = y := by rw [← Y.out, ← e0, List.getElem?_map, hp]; rfl
    obtain ⟨rfl, hg, hcx, hcy⟩ := hr k p hp
    have hsz := hnx.size
    have hld := ld_frame ((hnx.block g hg).trans hcx) hcy
    obtain ⟨W1, hW1⟩ : ∃ W1, W1 = (wr.alloc (.cells (frC (0, zeroS)).toArray 132)).setRow wr.heap.size (frC p).toArray := ⟨_, rfl⟩
    obtain ⟨hg1, hb1, hc1, hs1⟩ := new_frame wr p W1 hW1
    rw [hpy] at hc1
    have hJ1 := hJ _ _ _ none hJs hg1 (fun r e => by cases e)
    obtain ⟨fn, tmps, assign, body, hy, hR⟩ := hY _ y _ hJ1 (by rw [upto_length]; exact hlt)
    have HB1 := hid hb1
    have HE1 := hid hW1
    have HKB : Hid (W1.heap[Bn]? = wr.heap[Bn]?) := hid (hb1.block Bn (by omega))
    rw [hW1] at hc1 hy hR
    clear hp hcx hcy hg1 hb1 hs1 hJ1 hW1
    gi_wp2
    refine hR.mono ?_
    rintro e W3 (⟨rfl, hJ3, hk3⟩ | ⟨rfl, hJx3⟩)
    · gi_wp2
      go_roundw
      case rel => exact ⟨k + 1, by omega, by simp, by rw [upto_succ]; show J (_ ++ [zs[k]?.getD 0]) _; rw [Y.out]; exact hJ3, kpB_t ⟨hnx, hbx⟩ (kpB_t ⟨HB1.out.mono (by omega), HKB.out⟩ (by rw [HE1.out]; exact hk3))⟩
      case measure => simp [intOf]; omega
    · gi_wp2
      refine bodyPost_ret (results_none rfl _ _ _) rfl ?_
      exact ⟨⟨_, rfl⟩, .inr ⟨_, ⟨k + 1, by omega, by rw [upto_succ]; show _ = _ ++ [zs[k]?.getD 0]; rw [Y.out]⟩, hJx3⟩⟩
  · obtain rfl : k = zs.length := by omega
    gi_wp2
    go_end0
    exact ⟨⟨_, rfl⟩, .inl ⟨_, rfl, hJs⟩⟩

set_option maxRecDepth 100000 in
set_option maxHeartbeats 1000000 in
theorem weach1_nil (n l Bn : Nat) (hn : 1 ≤ n) (J : List Int → World → Prop) (W : World) (hBn : W.cell? ⟨Bn, 0, none⟩ = some (.pointer none)) (h0 : J [] W) :
 CallsIn Fence.wide n Tryz.prog 150 #[.func (.yield l) #[] #[], .pointer (some ⟨Bn, 0, none⟩)] W fun e W' => (∃ v, e = .returned v) ∧ J [] W' := by
 refine callsIn_of_wp Tryz.func150 rfl trivial ?_ rfl
 simp only [Tryz.ntmps150, List.size_toArray, List.length_cons, List.length_nil, Nat.reduceAdd, Nat.reduceSub, Array.replicate_succ, Array.replicate_zero, List.push_toArray, List.append_toArray, List.nil_append, List.cons_append]
 gi_wp2
 refine bodyPost_ret (results_none rfl _ _ _) rfl ?_
 exact ⟨⟨_, rfl⟩, h0⟩

theorem weach_in (n : Nat) (p0 : Option Addr) (w : World) :
 CallsIn Fence.wide n Tryz.prog 114 #[.pointer p0] w fun e w' => e = .returned (.func (.func 150) #[] #[.pointer (some ⟨w.heap.size, 0, none⟩)]) ∧ w' = w.alloc (.cells #[.pointer p0] 78) := by
 refine callsIn_of_wp Tryz.func114 rfl trivial ?_ rfl
 simp only [Tryz.ntmps114, List.size_toArray, List.length_cons, List.length_nil, Nat.reduceAdd, Nat.reduceSub, Array.replicate_succ, Array.replicate_zero, List.push_toArray, List.append_toArray, List.nil_append, List.cons_append]
 gi_wp2
 go_ret
 exact ⟨rfl, rfl⟩

theorem weach_stops (n : Nat) (hn : 1 ≤ n) (Bn n₀ : Nat) (p0 : Option Addr) (l0 : List (Int × St)) (zs : List Int) (e0 : l0.map (·.1) = zs) (hz : zs.length ≤ 9000000) (w : World) (hBn : Bn < w.heap.size) (hn₀ : n₀ ≤ w.heap.size)
 (hc : w.cell? ⟨Bn, 0, none⟩ = some (.pointer p0)) (hS : WSrc n₀ w p0 l0) :
 SeqStopsK Fence.wide n Tryz.prog 150 #[.pointer (some ⟨Bn, 0, none⟩)] (fun x : Int => #[Value.int .i64 x]) (KpB n₀ Bn) (fun ys => ys = zs) (fun pre => pre <+: zs) zs.length w := fun l J Jx W hW hJ _ hY h0 => by
 have hc' := (hW.cell (p := ⟨Bn, 0, none⟩) hBn).trans hc
 have hsz := hW.size
 have hlen : l0.length = zs.length := by rw [← e0]; simp
 rcases hS.below (hW.mono hn₀) with ⟨rfl, rfl⟩ | ⟨b, ao, cap, g, cur, rfl, hb, hcs, hr⟩
 · obtain rfl : zs = [] := e0.symm
   exact (weach1_nil n l Bn hn J W hc' h0).mono fun e W' ⟨he, hj⟩ => ⟨he, .inl ⟨_, rfl, hj⟩⟩
 · refine (weach1_in n hn l Bn n₀ b cap g ao cur l0 zs e0 hz hb J Jx W (by omega) (by omega) hJ hY hc' (by rw [← hlen]; exact hcs) hr h0).mono ?_
   rintro e W' ⟨he, ⟨ys, rfl, hj⟩ | ⟨pre, ⟨k, hk, rfl⟩, hj⟩⟩
   · exact ⟨he, .inl ⟨_, upto_all zs, hj⟩⟩
   · exact ⟨he, .inr ⟨_, by rw [upto_take zs hk]; exact List.take_prefix _ _, hj⟩⟩

set_option maxRecDepth 100000 in
set_option maxHeartbeats 2000000 in
theorem frames_in (p0 : Option Addr) (l0 : List (Int × St)) (zs : List Int) (e0 : l0.map (·.1) = zs) (hz : zs.length ≤ 9000000) (w : World) (hS : WSrc w.heap.size w p0 l0) :
 CallsIn Fence.wide 3 Tryz.prog 68 #[.pointer p0] w fun e W' => ∃ ao cap, e = .returned (.slice ao zs.length cap) ∧ W'.ownsRow w.heap.size 3 1 (.slice ao zs.length cap) zs.length (ints zs) ∧ Below w.heap.size w W' := by
 obtain ⟨i0, hi, hz0, hz1, hz2⟩ := info_parts info_int
 refine callsIn_of_wp_marks Tryz.func68 rfl trivial ?_ rfl
 simp only [Tryz.ntmps68, List.size_toArray, List.length_cons, List.length_nil, Nat.reduceAdd, Nat.reduceSub, Array.replicate_succ, Array.replicate_zero, List.push_toArray, List.append_toArray, List.nil_append, List.cons_append]
 gi_wp2_with (refine ⟨trivial, ?_⟩; gi_at_call 114; refine (weach_in _ _ _).mono ?_; rintro e w' ⟨rfl, rfl⟩)
 have bO := Boxed.new w 121 (.slice none 0 0)
 have bN := Boxed.new (w.alloc (.cells #[.slice none 0 0] 121)) 78 (.pointer p0)
 rw [World.size_alloc] at bN
 have hB0 : Below w.heap.size w ((w.alloc (.cells #[.slice none 0 0] 121)).alloc (.cells #[.pointer p0] 78)) := ((Below.refl _ w).alloc (Nat.le_refl _) _).alloc (by simp) _
 refine wpIn_rangeFunc_ownG rfl (by omega) (gf := 150) (lb := #[.pointer (some ⟨w.heap.size + 1, 0, none⟩)]) rfl trivial (enters_of Tryz.func150 (by kernel_rfl) rfl)
  (weach_stops _ (by omega) (w.heap.size + 1) w.heap.size p0 l0 zs e0 hz _ (by simp) (by simp; omega) bN.cell (hS.below hB0)) kpB_t (kpB_b (by simp; omega) (by simp)) (Below.refl _ _) (fun _ => rfl)
  (fun pre W => ((∃ v, Boxed W w.heap.size 121 v ∧ W.ownsRow w.heap.size 3 1 v pre.length (ints pre) ∧ True) ∧ Boxed W (w.heap.size + 1) 78 (.pointer p0)) ∧ Below w.heap.size w W)
  (fun _ _ _ => False)
  (OwnFrom.and (OwnFrom.and (Own.from (holdsRow_own w.heap.size w.heap.size 121 3 1 (fun pre : List Int => pre.length) (fun pre => ints pre) (fun _ _ => True)) _) (Own.from (boxed_own _ _ (fun _ => Value.pointer p0)) _)) (ownFrom_below (Nat.le_refl _) (by simp; omega)))
  (fun _ _ _ _ _ hs _ _ => hs)
  ⟨⟨⟨_, bO.alloc _, World.ownsRow_nil _ _ _ _, trivial⟩, bN⟩, hB0⟩
  (fun x => { tmps := #[.pointer p0, undef, .slice none 0 0, .pointer (some ⟨w.heap.size, 0, none⟩), .int .i64 x, .pointer p0, .func (.func 150) #[] #[.pointer (some ⟨w.heap.size + 1, 0, none⟩)], .int .i64 x, undef, undef, undef, undef, undef], defers := [] }) ?assign ?body ?done ?stop
 case assign =>
  intro l x W K hK
  gi_wp2
  exact hK
 case body =>
  rintro l pre x W ⟨⟨⟨v, hv, hrow, -⟩, hbx⟩, hB⟩ hlt
  have hc := hv.cell
  gi_wp2_with (gi_at_builtin; refine wpListIn_append_own _ rfl _ _ 121 rfl w.heap.size 3 i0 (.int .i64 0) 1 8 Tryz.underlying121 hi hz0 hz1 hz2 rfl (by decide) _ _ _ rfl (hrow.alloc _) ⟨W.heap.size, 0, none⟩ 1 1 [.int .i64 x] rfl rfl (cell_one_new _ _ _) (by simp [Value.oneCell']) (by unfold maxLen; omega) (by omega) (by have := hB.size; simp; omega) ?_; intro v' w1 hown' hgrow _; obtain ⟨g', cap', rfl⟩ := ownsRow_succ hown'; obtain ⟨hv1, hv2, hr2, hk2, hb2⟩ := hv.appended (by decide) hrow hB.size (Nat.le_refl _) hown' hgrow; have hbx1 := (hbx.alloc (.cells #[.int .i64 x] 3)).kept hgrow (hbx.not_row (by decide) hrow); have hbx2 := hbx1.other (B' := w.heap.size) (by omega) (.slice (some ⟨g', 0, none⟩) (pre.length + 1) cap'); have hc1 := hv1.cell; have hf1 := hv1.frozen)
  exact ⟨hk2.from _, ⟨hb2, Eq.trans hbx2 (Eq.symm hbx)⟩, ⟨⟨_, hv2, by rw [ints_snoc]; simpa using hr2, trivial⟩, hbx2⟩, hB.trans hb2⟩
 case done =>
  rintro D ys W hD rfl ⟨⟨⟨v, hv, hrow, -⟩, hbx⟩, hB⟩ hK
  have hc := hv.cell
  obtain ⟨ao, cap, rfl⟩ := row_form hrow
  gi_wp2
  refine ⟨by simp, .inl ⟨_, _, rfl, run_takeDeferred hK, ?_⟩⟩
  exact ⟨_, results_tmp rfl _ _ _, ao, cap, rfl, ownsRow_putObj hrow _ hK rfl, hB.trans (belowK_b (w := w) (Nat.le_refl _) W D _ _ (by simp at hD; omega) hK rfl rfl)⟩
 case stop =>
  rintro D c pre W _ _ h _
  exact h.elim

theorem frames_c (n₀ b size cap : Nat) (first : Int) (ao : Option Addr) (l : List (Int × St)) (w : World) (h : Win w n₀ 129 132 b size first ao cap l) (hl : l.length ≤ 4096) :
 Calls Tryz.prog 68 #[.pointer (some ⟨b, 0, none⟩)] w fun e w' => ∃ ao' cap', e = .returned (.slice ao' l.length cap') ∧ Below w.heap.size w w' := by
 have hS : WSrc w.heap.size w (some ⟨b, 0, none⟩) l := by
  rcases h.row.2 with ⟨h1, h2⟩ | ⟨g, cap', cur, h1, _⟩
  · refine .inr ⟨b, ao, cap, 0, #[], rfl, h.lt, by simpa using h.cell 2, fun j p hj => ?_⟩
    have := (List.getElem?_eq_some_iff.1 hj).1
    omega
  · cases l with
    | nil => exact .inr ⟨b, ao, cap, 0, #[], rfl, h.lt, by simpa using h.cell 2, fun j p hj => by simp at hj⟩
    | cons q l' =>
     obtain ⟨g, cur, e1, e2, e3, _⟩ := win_cell h.row 0 q rfl
     refine .inr ⟨b, ao, cap, g, cur, rfl, h.lt, by simpa using h.cell 2, fun j p hj => ?_⟩
     obtain ⟨g', cur', f1, f2, f3, f4, _⟩ := win_cell h.row j p hj
     rw [e1] at f1
     cases f1
     obtain rfl : cur = cur' := by have := e3.symm.trans f3; simpa using this
     exact ⟨e1, e2, e3, f4⟩
 refine (callsIn_wide.1 (frames_in (some ⟨b, 0, none⟩) l (l.map (·.1)) rfl (by simp; omega) w hS)).mono ?_
 rintro e w' ⟨ao', cap', he, _, hb⟩
 exact ⟨ao', cap', by rw [he]; simp, hb⟩

end Go.Proofs.YtfclnhmijjlhdaaGreatDoor.Sw
