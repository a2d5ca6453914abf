/- What Move and Cut of layer 4's windows return and leave of the memory. -/
/- What slices.Insert returns at a window's list, for one new element. -/
/- What Put of layer 4's windows returns and leaves of the memory. -/
/- Plain facts on the list of a window of uint8: what is put, moved past and cut keeps it rising, within its window, and no longer than its size. -/
import Derived.Test.YtfclnhmijjlhdaaGreatDoorJ14
import Derived.Deep.RegionWith
import Derived.Deep.DrawnRows
import Derived.Test.YtfclnhmijjlhdaaGreatDoorJ6
import Derived.Shelf.Spec.SlicesInsert
namespace Go.Proofs.YtfclnhmijjlhdaaGreatDoor.Ru
open Rg
open Go.RowKit
set_option linter.unusedVariables false
set_option maxRecDepth 100000
attribute [local go_sem ↓] Go.wp_at_zero Go.wp_at_succ

/-- the first frame's field is stored. -/
theorem win_first {w : World} {n₀ t e b size : Nat} {first : Int} {ao : Option Addr} {cap n : Nat} {xs : List Value} (h : Held w n₀ t e 2 b [.int .i64 size, .int .i64 first] ao n cap xs) (hte : t ≠ e) (f : Int) :
 Held (w.setCell ⟨b, 1, none⟩ (.int .i64 f)) n₀ t e 2 b [.int .i64 size, .int .i64 f] ao n cap xs ∧ Keeps (Foot b ao) w (w.setCell ⟨b, 1, none⟩ (.int .i64 f)) := by
 refine ⟨⟨?_, h.ge, ?_⟩, (Keeps.refl _ w).setCell (fun _ => .inl rfl) _⟩
 · exact heap_setCell_same w b 1 _ t (.int .i64 f) h.block
 · refine ownsRow_setCell_other h.row ?_ _
   intro e'
   cases ao with
   | none => simp [Value.ownBlock] at e'
   | some a => exact h.apart hte a rfl (by simpa [Value.ownBlock] using e')

/-- a list's cells turned in place, then the field stored. -/
theorem cut_step {w w1 : World} {n₀ t e b cap : Nat} {cs : List Value} {ao : Option Addr} {n m : Nat} {xs ys : List Value} (h : Held w n₀ t e 2 b cs ao n cap xs) (hte : t ≠ e)
 (hown : w1.ownsRow n₀ e 2 (.slice ao m cap) m ys) (hg : w.grownBy w1 (Value.ownBlock (.slice ao n cap))) :
 Keeps (Foot b ao) w w1 ∧ w1.heap[b]? = w.heap[b]? := by
 refine ⟨(Keeps.refl _ w).grown hg ?_, hg.block b h.lt ?_⟩
 · intro k hk _
   cases ao with
   | none => simp [Value.ownBlock] at hk
   | some a => exact .inr ⟨a, rfl, by simpa [Value.ownBlock] using hk.symm⟩
 · intro e'
   cases ao with
   | none => simp [Value.ownBlock] at e'
   | some a => exact h.apart hte a rfl (by simpa [Value.ownBlock] using e'.symm)

theorem keepsOld {S : Nat → Prop} {a b c : World} (h : Below a.heap.size a b) (k : Keeps S b c) : Keeps S a c := (Keeps.ofOld h S).trans k (fun _ _ e => e)

theorem move_no (i : Int) (n₀ b size cap : Nat) (first : Int) (ao : Option Addr) (l : List (Int × Int)) (w : World) (h : Win w n₀ 177 189 b size first ao cap l) (hi : i < first ∨ 1073741824 < i) :
 Calls Tryz.prog 94 #[.pointer (some ⟨b, 0, none⟩), .int .i64 i] w fun e w' => e = .returned (.int .i64 0) ∧ w = w' := by
 have c1 : w.cell? ⟨b, 1, none⟩ = some (.int .i64 first) := by simpa using h.cell 1
 by_cases h1 : i < first
 · have d1 : decide (i < first) = true := by simpa using h1
   go_enter Tryz.func94, Tryz.ntmps94
   go_wp2_with fail
   go_ret
   exact ⟨rfl, rfl⟩
 · have d1 : decide (i < first) = false := by simpa using h1
   have d2 : decide (1073741824 < i) = true := by simp; omega
   go_enter Tryz.func94, Tryz.ntmps94
   go_wp2_with fail
   go_ret
   exact ⟨rfl, rfl⟩

theorem move_c (i : Int) (n₀ b size cap : Nat) (first : Int) (ao : Option Addr) (l : List (Int × Int)) (w : World) (h : Win w n₀ 177 189 b size first ao cap l) (hr : Rising l) (hl : l.length ≤ 4096) (hi : first ≤ i ∧ i ≤ 1073741824) :
 Calls Tryz.prog 94 #[.pointer (some ⟨b, 0, none⟩), .int .i64 i] w fun e w' => e = .returned (.int .i64 (lo l i)) ∧
  Win w' n₀ 177 189 b size i ao cap (l.drop (lo l i)) ∧ Keeps (Foot b ao) w w' := by
 have hlo0 := lo_le l i
 obtain ⟨k, K⟩ : ∃ k, Hid (lo l i = k) := ⟨_, rfl⟩
 have hlo : k ≤ l.length := by rw [← K.out]; exact hlo0
 rw [K.out]
 clear hlo0
 have c1 : w.cell? ⟨b, 1, none⟩ = some (.int .i64 first) := by simpa using h.cell 1
 have f1 : w.frozen? ⟨b, 1, none⟩ = false := h.frozen 1
 have d1 : decide (i < first) = false := by simp; omega
 have d2 : decide (1073741824 < i) = false := by simp; omega
 obtain ⟨h0, hk0⟩ := win_first h (by decide) i
 go_enter Tryz.func94, Tryz.ntmps94
 go_wp2_with fail
 refine (place_c i n₀ b size cap i ao l _ h0 hr hl).mono ?_
 rintro e w1 ⟨rfl, hB⟩
 rw [K.out]
 have h1 := h0.old hB
 have hd := delete2_c n₀ l.length cap 0 k ao (prs l) w1 h1.row (prs_one l) (Nat.zero_le _) hlo hl
 rw [Nat.zero_mul, List.take_zero, List.nil_append, ← prs_drop, Nat.zero_add] at hd
 have Hd : Hid (Calls Tryz.prog 136 #[.slice ao l.length cap, .int .i64 0, .int .i64 k] w1 fun e w' => e = .returned (.slice ao (l.length - k) cap) ∧
  w'.ownsRow n₀ 189 2 (.slice ao (l.length - k) cap) (l.length - k) (prs (l.drop k)) ∧ w1.grownBy w' (Value.ownBlock (.slice ao l.length cap))) := hd
 have E1 : Hid ((l.drop k).length = l.length - k) := List.length_drop
 have c2 : w1.cell? ⟨b, 2, none⟩ = some (.slice ao l.length cap) := by simpa using h1.cell 2
 clear hd h hr c1 f1 h0
 go_wp2_with (go_at_call 136; ((with_reducible refine Hd.out.mono ?_); rintro e w2 ⟨rfl, hown, hg⟩; obtain ⟨hk, hblk⟩ := cut_step h1 (by decide) hown hg; have c3 : w2.cell? ⟨b, 2, none⟩ = some (.slice ao l.length cap) := (World.cell?_of_block hblk).trans c2; have f3 : w2.frozen? ⟨b, 2, none⟩ = false := (World.frozen?_of_block hblk).trans (h1.frozen 2)))
 go_ret
 obtain ⟨hh, hk2⟩ := h1.stored (by decide) hk hblk hown
 refine ⟨rfl, ?_, hk0.trans (keepsOld hB hk2) (fun _ _ e => e)⟩
 show Held _ _ _ _ _ _ _ _ _ _ _
 rw [E1.out]
 exact hh

end Go.Proofs.YtfclnhmijjlhdaaGreatDoor.Ru

namespace Go.Proofs.YtfclnhmijjlhdaaGreatDoor.Ru
open Rg
open Go.RowKit
set_option linter.unusedVariables false
set_option maxRecDepth 100000

theorem run_append_make {P : Program} (w : World) (t tx ty e : TypeId) (i : TypeInfo) (z : Value) (ht : P.underlying t = some (.slice e)) (htx : P.underlying tx = some (.int .i64)) (hi : P.info? e = some i) (hz : i.zero = some z) (base : Option Addr) (sLen sCap : Nat) (olds : List Value)
 (hold : (Builtin.firstCells i.size sLen (.slice base sLen sCap)).run P w.drew = .ok olds.toArray w.drew) (c : Nat) (hc : 0 < c) (hsz : 0 < i.size) (hg : sCap < sLen + c) (h63 : ((sLen + c : Nat) : Int) ≤ 9223372036854775807) (hb : (c : Int) * (i.bytes : Int) ≤ 281474976710656)
 (hfit : Builtin.nextslicecap (sLen + c) sCap * i.bytes ≤ 281474976710656) :
 (Builtin.append_ #[t, tx] ty #[.slice base sLen sCap, .int .i64 (c : Int)]).run P w =
  .ok (.slice (some ⟨w.heap.size, 0, none⟩) (sLen + c) (grownCap w (sLen + c) sCap e))
   (w.drew.alloc (.cells (olds.toArray ++ Builtin.zeroCells z.cells c ++ Builtin.zeroCells z.cells (grownCap w (sLen + c) sCap e - (sLen + c))) e)) := by
 have hn : ¬ (sLen + c ≤ sCap) := by omega
 have h63' : ¬ (9223372036854775807 < ((sLen : Int) + (c : Int))) := by omega
 have h48' : ¬ (281474976710656 < Builtin.nextslicecap (sLen + c) sCap * i.bytes) := by omega
 have hb' : ¬ (281474976710656 < (c : Int) * (i.bytes : Int)) := by omega
 have hw : IntKind.i64.wrap (c : Int) = (c : Int) := IntWalk.i64_in _ (by omega)
 have hc0 : ¬ ((c : Int) < 0) := by omega
 have hcs : ¬ (c = 0 ∨ i.size = 0) := by omega
 simp [Builtin.append_, run_underlying ht, run_underlying htx, sizeOf, typeInfo, zeroValue, hi, hz, hn, h63', h48', hb', hw, hc0, Question.forced, hold, newRow, grownCap, asInt, asIntOf]
 intro h0
 rcases Nat.mul_eq_zero.1 h0 with h | h <;> omega

/-- one new element lies in a block of its own. -/
def NewAt (w : World) (vb : Nat) (f x : Int) : Prop := w.heap[vb]? = some (.cells #[.int .i64 f, .int .u8 x] 189 (0, 0))
theorem NewAt.cells {w : World} {vb : Nat} {f x : Int} (h : NewAt w vb f x) : ∀ j u, [Value.int .i64 f, .int .u8 x][j]? = some u → w.cell? ((⟨vb, 0, none⟩ : Addr).add j) = some u := by
 intro j u hu
 rw [Addr.add_lit, cell_of_row w vb _ _ _ _ h]
 simpa using hu

set_option maxRecDepth 100000 in
theorem insert_end (n₀ n cap vb : Nat) (ao : Option Addr) (f x : Int) (xs : List Value) (w : World) (h : w.ownsRow n₀ 189 2 (.slice ao n cap) n xs) (hv : NewAt w vb f x) (hn : n ≤ 4096) (hb : n₀ ≤ w.heap.size) :
 Calls Tryz.prog 162 #[.slice ao n cap, .int .i64 n, .slice (some ⟨vb, 0, none⟩) 1 1] w fun e w' => ∃ ao' cap', e = .returned (.slice ao' (n + 1) cap') ∧
  w'.ownsRow n₀ 189 2 (.slice ao' (n + 1) cap') (n + 1) (xs ++ [.int .i64 f, .int .u8 x]) ∧ w.grownBy w' (Value.ownBlock (.slice ao n cap)) ∧ Near ao ao' w.heap.size := by
 obtain ⟨i0, hi, hz0, hz1, hz2⟩ := info_parts info_framed
 have hcap : n ≤ cap ∧ cap ≤ 9223372036854775807 := by
  rcases h.2 with ⟨h', h0⟩ | ⟨_, _, _, h', _, _, h2, h3, _⟩
  · cases h'; exact ⟨by omega, by omega⟩
  · cases h'; exact ⟨h2, by simpa [maxLen] using h3⟩
 obtain ⟨hc1, hc2⟩ := hcap
 have HV := hid hv
 have HO := hid h
 have fin : ∀ (v' : Value) (w' : World), w'.ownsRow n₀ 189 2 v' (n + 1) (xs ++ [.int .i64 f, .int .u8 x]) → (v'.ownBlock = Value.ownBlock (.slice ao n cap) ∨ v'.ownBlock = some w.heap.size) → ∃ ao' cap', v' = .slice ao' (n + 1) cap' ∧ Near ao ao' w.heap.size := by
  intro v' w' ho ha
  obtain ⟨ao', cap', rfl⟩ := row_form ho
  refine ⟨ao', cap', rfl, ?_⟩
  rintro a' rfl
  rcases ha with h1 | h1
  · cases ao with
    | none => simp [Value.ownBlock] at h1
    | some a => exact .inl ⟨a, rfl, by simpa [Value.ownBlock] using h1.symm⟩
  · refine .inr ?_
    simp [Value.ownBlock] at h1
    omega
 have FIN := hid fin
 clear fin
 rcases h.2 with ⟨h', rfl⟩ | ⟨g, cap', cur, h', _⟩
 all_goals
  cases h'
  clear h hv
  go_enter Tryz.func162, Tryz.ntmps162
  go_wp2_with (at_builtin; refine wpList_append_own_at _ rfl (.tmp 23) (.tmp 24) 175 rfl n₀ 189 i0 (.agg #[.int .i64 0, .int .u8 0]) 2 16 Tryz.underlying175 hi hz0 hz1 hz2 rfl (by decide) _ _ _ rfl HO.out ⟨vb, 0, none⟩ 1 1 [.int .i64 f, .int .u8 x] rfl rfl HV.out.cells (by simp [Value.oneCell']) (by unfold maxLen; omega) (by omega) hb ?_; intro v1 w1 hown1 hg1 _ hat1)
  all_goals
   go_ret
   obtain ⟨ao', cap'', rfl, hnear⟩ := FIN.out v1 w1 hown1 hat1
   exact ⟨ao', cap'', rfl, hown1, hg1, hnear⟩

theorem size_framed (w : World) : (sizeOf 189).run Tryz.prog w = .ok 2 w := by
 obtain ⟨i0, hi, hz0, hz1, hz2⟩ := info_parts info_framed
 simp [sizeOf, typeInfo, hi, hz1]

set_option maxHeartbeats 2000000 in
set_option maxRecDepth 100000 in
theorem insert_room (n₀ g n cap i vb : Nat) (f x : Int) (xs : List Value) (w : World) (h : w.ownsRow n₀ 189 2 (.slice (some ⟨g, 0, none⟩) n cap) n xs) (h1 : ∀ u ∈ xs, u.oneCell' = true) (hv : NewAt w vb f x) (hvg : vb ≠ g) (hi : i < n) (hroom : n + 1 ≤ cap) (hn : n ≤ 4096) :
 Calls Tryz.prog 162 #[.slice (some ⟨g, 0, none⟩) n cap, .int .i64 i, .slice (some ⟨vb, 0, none⟩) 1 1] w fun e w' => e = .returned (.slice (some ⟨g, 0, none⟩) (n + 1) cap) ∧
  w'.ownsRow n₀ 189 2 (.slice (some ⟨g, 0, none⟩) (n + 1) cap) (n + 1) (xs.take (i * 2) ++ [.int .i64 f, .int .u8 x] ++ xs.drop (i * 2)) ∧ w.grownBy w' (some g) := by
 obtain ⟨i0, hi0, hz0, hz1, hz2⟩ := info_parts info_framed
 obtain ⟨cur, hg, hcs, hcm⟩ : ∃ cur, w.heap[g]? = some (.cells cur 189 (0, 0)) ∧ cur.size = cap * 2 ∧ cap ≤ 9223372036854775807 := by
  rcases h.2 with ⟨h', _⟩ | ⟨_, _, cur, h', _, hh, _, h3, h4, _⟩
  · simp at h'
  · cases h'; exact ⟨cur, hh, h4, by simpa [maxLen] using h3⟩
 have hlen := h.1
 have hsa : w.shape? vb = some (189, 2) := by simp [World.shape?, show w.heap[vb]? = _ from hv]
 have hsb : w.shape? g = some (189, cap * 2) := by simp [World.shape?, hg, hcs]
 have hfa : w.frozen? ⟨vb, 0, none⟩ = false := frozen_of_row w vb 0 _ _ hv
 have hfe : w.frozen? ⟨vb, 2, none⟩ = false := frozen_of_row w vb 2 _ _ hv
 have hov : ∀ lb cb, (callFunc 206 #[.slice (some ⟨vb, 0, none⟩) 1 1, .slice (some ⟨g, (i + 1) * 2, none⟩) lb cb]).run Tryz.prog w = .ok (.value (.bool false)) w := fun lb cb => by
  rw [run_callFunc_extern Tryz.func206 (by kernel_rfl) (by kernel_rfl) (by kernel_rfl) (e := Extern.SlicesOverlaps.overlaps #[175, 175] #[4]) (by kernel_rfl),
   Lib.run_overlaps_apart w 175 4 189 Tryz.underlying175 2 size_framed ⟨vb, 0, none⟩ ⟨g, (i + 1) * 2, none⟩ 1 1 lb cb hvg 189 189 2 (cap * 2) hsa hsb (by omega) hfa hfe]
  rfl
 obtain ⟨tl, htl⟩ : ∃ tl, tl = xs.drop (i * 2) := ⟨_, rfl⟩
 have hdl : tl.length = (n - i) * 2 := by rw [htl, List.length_drop, hlen]; omega
 have h1t : ∀ u ∈ tl, u.oneCell' = true := fun u hu => h1 u (List.mem_of_mem_drop (by rw [← htl]; exact hu))
 have hcp1 : ∀ ty dc sc, (Builtin.copy_ #[175, 175] ty #[.slice (some ⟨g, (i + 1) * 2, none⟩) (n + 1 - (i + 1)) dc, .slice (some ⟨g, i * 2, none⟩) (n + 1 - i) sc]).run Tryz.prog w.drew = .ok (goInt (Nat.min (n + 1 - i) (n + 1 - (i + 1)))) (w.drew.setCells g ((i + 1) * 2) tl) := fun ty dc sc =>
  run_copy_k w.drew _ _ ty 189 i0 2 g ((i + 1) * 2) (n + 1 - (i + 1)) dc ⟨g, i * 2, none⟩ (n + 1 - i) sc tl Tryz.underlying175 hi0 hz1 (by rw [hdl]; simp only [Nat.min_def]; split <;> omega)
   (fun j v hj => by rw [Addr.add_lit]; exact row_from h (i * 2) j v (by rw [← htl]; exact hj))
   (fun j hj => (setCells_there (w := w.drew) hg _ (by omega)).1) (fun j hj => (setCells_there (w := w.drew) hg _ (by omega)).2) h1t
 obtain ⟨W1, hW1⟩ : ∃ W1, W1 = w.drew.setCells g ((i + 1) * 2) tl := ⟨_, rfl⟩
 have hg1 : W1.heap[g]? = some (.cells (splice cur ((i + 1) * 2) tl) 189 (0, 0)) := by rw [hW1]; exact setCells_block g _ _ _ _ _ hg
 have hv1 : NewAt W1 vb f x := by
  rw [hW1]
  exact ((setCells_grown g tl ((i + 1) * 2) w.drew).block vb (Array.getElem?_eq_some_iff.1 hv).1 (by simpa using hvg)).trans hv
 have hcp2 : ∀ ty dc, (Builtin.copy_ #[175, 175] ty #[.slice (some ⟨g, i * 2, none⟩) (n + 1 - i) dc, .slice (some ⟨vb, 0, none⟩) 1 1]).run Tryz.prog W1 = .ok (goInt (Nat.min 1 (n + 1 - i))) (W1.setCells g (i * 2) [.int .i64 f, .int .u8 x]) := fun ty dc =>
  run_copy_k W1 _ _ ty 189 i0 2 g (i * 2) (n + 1 - i) dc ⟨vb, 0, none⟩ 1 1 [.int .i64 f, .int .u8 x] Tryz.underlying175 hi0 hz1 (by simp only [Nat.min_def, List.length_cons, List.length_nil]; split <;> omega)
   hv1.cells (fun j hj => (setCells_there hg1 _ (by rw [splice_size]; simp at hj; omega)).1) (fun j hj => (setCells_there hg1 _ (by rw [splice_size]; simp at hj; omega)).2) (by simp [Value.oneCell'])
 rw [← hW1] at hcp1
 have HW := hid hW1
 have HT := hid htl
 have HO := hid (ins_own (ys := [.int .i64 f, .int .u8 x]) h (Nat.le_of_lt hi) hroom rfl 1)
 have z2 : ((i : Int) == (n : Int)) = false := by simp; omega
 have hw1 : IntKind.i64.wrap ((i : Int) + 1) = (i : Int) + 1 := IntWalk.i64_in _ (by omega)
 have hb1 : (0 : Int) ≤ (i : Int) + 1 := by omega
 have hin : i ≤ n := by omega
 have htn : ((i : Int) + 1).toNat = i + 1 := by omega
 have hb2 : ¬ (cap = i + 1) := by omega
 have hb3 : (i : Int) ≤ (n : Int) + 1 := by omega
 have hb4 : ¬ (cap = i) := by omega
 have hb5 : (n : Int) + 1 ≤ (cap : Int) := by omega
 clear hW1 htl hdl h1t hg hcs h h1 hsa hsb hfa hfe hv hv1 hg1 hlen
 go_enter Tryz.func162, Tryz.ntmps162
 go_wp2_with (simp only [hov])
 go_region_law (refine step_copy_runI rfl _ _ 175 175 rfl _ _ (by simp [Act.eval, Act.put]) (by simp [Act.eval, Act.put]) (hcp1 _ (cap - (i + 1)) (cap - i)) ?_)
 go_wp2_with (at_builtin; refine wpList_copy_runI _ rfl _ _ 175 175 rfl _ _ rfl rfl (hcp2 _ (cap - i)) ?_)
 go_ret
 have := HO.out
 rw [HW.out, HT.out, show (i + 1) * 2 = i * 2 + [Value.int .i64 f, .int .u8 x].length by simp; omega]
 exact ⟨rfl, this⟩

theorem size_zeros (n : Nat) : (Builtin.zeroCells (Value.agg #[.int .i64 0, .int .u8 0]).cells n).size = n * 2 := by
 show (Builtin.zeroCells #[Value.int .i64 0, Value.int .u8 0] n).size = _
 simp [Builtin.zeroCells]

set_option maxHeartbeats 2000000 in
set_option maxRecDepth 100000 in
theorem insert_grow (n₀ g n cap i vb : Nat) (f x : Int) (xs : List Value) (w : World) (h : w.ownsRow n₀ 189 2 (.slice (some ⟨g, 0, none⟩) n cap) n xs) (h1 : ∀ u ∈ xs, u.oneCell' = true) (hv : NewAt w vb f x) (hi : i < n) (hroom : cap < n + 1) (hn : n ≤ 4096) (hb : n₀ ≤ w.heap.size) :
 Calls Tryz.prog 162 #[.slice (some ⟨g, 0, none⟩) n cap, .int .i64 i, .slice (some ⟨vb, 0, none⟩) 1 1] w fun e w' => ∃ cap', e = .returned (.slice (some ⟨w.heap.size, 0, none⟩) (n + 1) cap') ∧
  w'.ownsRow n₀ 189 2 (.slice (some ⟨w.heap.size, 0, none⟩) (n + 1) cap') (n + 1) (xs.take (i * 2) ++ [.int .i64 f, .int .u8 x] ++ xs.drop (i * 2)) ∧ Below w.heap.size w w' := by
 obtain ⟨i0, hi0, hz0, hz1, hz2⟩ := info_parts info_framed
 have hcap : n ≤ cap := by
  rcases h.2 with ⟨h', _⟩ | ⟨_, _, cur, h', _, hh, h3, _⟩
  · simp at h'
  · cases h'; exact h3
 have hgl : g < w.heap.size := by
  rcases h.2 with ⟨h', _⟩ | ⟨_, _, cur, h', _, hh, _⟩
  · simp at h'
  · cases h'; exact (Array.getElem?_eq_some_iff.1 hh).1
 have hvl : vb < w.heap.size := (Array.getElem?_eq_some_iff.1 hv).1
 have hlen := h.1
 have htk : (xs.take (i * 2)).length = i * 2 := by rw [List.length_take, hlen]; omega
 obtain ⟨cN, hcN⟩ : ∃ cN, cN = grownCap w (n + 1) cap 189 := ⟨_, rfl⟩
 have hc1 : n + 1 ≤ cN := by rw [hcN]; exact grownCap_ge w _ _ _
 have hc2 : cN ≤ maxLen := by rw [hcN]; exact grownCap_le_maxLen w _ _ _ (by unfold maxLen; omega)
 have hold : (Builtin.firstCells i0.size i (.slice (some ⟨g, 0, none⟩) i cap)).run Tryz.prog w.drew = .ok (xs.take (i * 2)).toArray w.drew := by
  refine run_firstCells_some (P := Tryz.prog) w.drew i0.size i ⟨g, 0, none⟩ i cap (xs.take (i * 2)) (by rw [htk, hz1]) (fun j v hj => ?_)
  rw [Addr.add_lit]
  refine row_from h 0 j v ?_
  rw [List.getElem?_take] at hj
  split at hj
  · simpa using hj
  · cases hj
 obtain ⟨C, hC⟩ : ∃ C, C = (xs.take (i * 2)).toArray ++ Builtin.zeroCells (Value.agg #[.int .i64 0, .int .u8 0]).cells (n + 1 - i) ++ Builtin.zeroCells (Value.agg #[.int .i64 0, .int .u8 0]).cells (cN - (n + 1)) := ⟨_, rfl⟩
 have hCs : C.size = cN * 2 := by rw [hC, Array.size_append, Array.size_append, size_zeros, size_zeros, List.size_toArray, htk]; omega
 have hCt : C.toList.take (i * 2) = xs.take (i * 2) := by
  rw [hC, Array.toList_append, Array.toList_append, List.append_assoc, List.take_append_of_le_length (by simp [htk]), List.take_of_length_le (by simp [htk])]
 have hrun : ∀ ty, (Builtin.append_ #[175, 3] ty #[.slice (some ⟨g, 0, none⟩) i cap, .int .i64 ((n : Int) + 1 - (i : Int))]).run Tryz.prog w = .ok (.slice (some ⟨w.heap.size, 0, none⟩) (n + 1) cN) (w.drew.alloc (.cells C 189)) := by
  intro ty
  have := run_append_make w 175 3 ty 189 i0 (.agg #[.int .i64 0, .int .u8 0]) Tryz.underlying175 Tryz.underlying3 hi0 hz0 (some ⟨g, 0, none⟩) i cap (xs.take (i * 2)) hold (n + 1 - i) (by omega) (by omega) (by omega) (by omega) (by rw [hz2]; omega) (growslice_fits (by omega) (by rw [hz2]; omega))
  rw [show i + (n + 1 - i) = n + 1 by omega, ← hcN, ← hC, show (((n + 1 - i : Nat)) : Int) = (n : Int) + 1 - (i : Int) by omega] at this
  exact this
 obtain ⟨tl, htl⟩ : ∃ tl, tl = xs.drop (i * 2) := ⟨_, rfl⟩
 have hdl : tl.length = (n - i) * 2 := by rw [htl, List.length_drop, hlen]; omega
 have h1t : ∀ u ∈ tl, u.oneCell' = true := fun u hu => h1 u (List.mem_of_mem_drop (by rw [← htl]; exact hu))
 obtain ⟨W2, hW2⟩ : ∃ W2, W2 = w.drew.alloc (.cells C 189) := ⟨_, rfl⟩
 have hg2 : W2.heap[w.heap.size]? = some (.cells C 189 (0, 0)) := by rw [hW2]; exact heap_alloc_new w.drew _
 have hv2 : NewAt W2 vb f x := by rw [hW2]; exact (Below.heap_alloc w.drew _ vb hvl).trans hv
 have hcp2 : ∀ ty dc, (Builtin.copy_ #[175, 175] ty #[.slice (some ⟨w.heap.size, i * 2, none⟩) (n + 1 - i) dc, .slice (some ⟨vb, 0, none⟩) 1 1]).run Tryz.prog W2 = .ok (goInt (Nat.min 1 (n + 1 - i))) (W2.setCells w.heap.size (i * 2) [.int .i64 f, .int .u8 x]) := fun ty dc =>
  run_copy_k W2 _ _ ty 189 i0 2 w.heap.size (i * 2) (n + 1 - i) dc ⟨vb, 0, none⟩ 1 1 [.int .i64 f, .int .u8 x] Tryz.underlying175 hi0 hz1 (by simp only [Nat.min_def, List.length_cons, List.length_nil]; split <;> omega)
   hv2.cells (fun j hj => (setCells_there hg2 _ (by simp at hj; omega)).1) (fun j hj => (setCells_there hg2 _ (by simp at hj; omega)).2) (by simp [Value.oneCell'])
 obtain ⟨W3, hW3⟩ : ∃ W3, W3 = W2.setCells w.heap.size (i * 2) [.int .i64 f, .int .u8 x] := ⟨_, rfl⟩
 have hg3 : W3.heap[w.heap.size]? = some (.cells (splice C (i * 2) [.int .i64 f, .int .u8 x]) 189 (0, 0)) := by rw [hW3]; exact setCells_block _ _ _ _ _ _ hg2
 have hold3 : W3.heap[g]? = w.heap[g]? := by
  rw [hW3]
  refine ((setCells_grown w.heap.size _ _ W2).block g (by rw [hW2]; simp; omega) (by simp; omega)).trans ?_
  rw [hW2]
  exact Below.heap_alloc w.drew _ g hgl
 have hcp1 : ∀ ty dc sc, (Builtin.copy_ #[175, 175] ty #[.slice (some ⟨w.heap.size, (i + 1) * 2, none⟩) (n + 1 - (i + 1)) dc, .slice (some ⟨g, i * 2, none⟩) (n - i) sc]).run Tryz.prog W3.drew = .ok (goInt (Nat.min (n - i) (n + 1 - (i + 1)))) (W3.drew.setCells w.heap.size ((i + 1) * 2) tl) := fun ty dc sc =>
  run_copy_k W3.drew _ _ ty 189 i0 2 w.heap.size ((i + 1) * 2) (n + 1 - (i + 1)) dc ⟨g, i * 2, none⟩ (n - i) sc tl Tryz.underlying175 hi0 hz1 (by rw [hdl]; simp only [Nat.min_def]; split <;> omega)
   (fun j v hj => by rw [Addr.add_lit]; exact (World.cell?_of_block (w := w) (w' := W3.drew) (a := ⟨g, i * 2 + j, none⟩) hold3).trans (row_from h (i * 2) j v (by rw [← htl]; exact hj)))
   (fun j hj => (setCells_there (w := W3.drew) hg3 _ (by rw [splice_size]; omega)).1) (fun j hj => (setCells_there (w := W3.drew) hg3 _ (by rw [splice_size]; omega)).2) h1t
 have hO := ins_new (w := w.drew.drew) (n₀ := n₀) (e := 189) (sz := 2) (ys := [.int .i64 f, .int .u8 x]) (cur := C) hlen (Nat.le_of_lt hi) rfl hb hc1 hc2 hCs hCt
 have e4 : W3.drew.setCells w.heap.size ((i + 1) * 2) tl = (((w.drew.drew.alloc (.cells C 189)).setCells w.heap.size (i * 2) [.int .i64 f, .int .u8 x]).setCells w.heap.size (i * 2 + [Value.int .i64 f, .int .u8 x].length) (xs.drop (i * 2))) := by
  rw [hW3, hW2, drew_setCells, htl, show (i + 1) * 2 = i * 2 + [Value.int .i64 f, .int .u8 x].length by simp; omega]
  rfl
 rw [← hW2] at hrun
 rw [← hW3] at hcp2
 have HO := hid hO
 have E4 := hid e4
 have z2 : ((i : Int) == (n : Int)) = false := by simp; omega
 have z3 : decide ((cap : Int) < (n : Int) + 1) = true := by simp; omega
 have hw1 : IntKind.i64.wrap ((i : Int) + 1) = (i : Int) + 1 := IntWalk.i64_in _ (by omega)
 have hb1 : (0 : Int) ≤ (i : Int) + 1 := by omega
 have hin : i ≤ n := by omega
 have hic : i ≤ cap := by omega
 have htn : ((i : Int) + 1).toNat = i + 1 := by omega
 have hb2 : ¬ (cN = i + 1) := by omega
 have hb3 : (i : Int) ≤ (n : Int) + 1 := by omega
 have hb4 : ¬ (cap = i) := by omega
 have hb6 : ¬ (cN = i) := by omega
 have hb7 : (i : Int) + 1 ≤ (n : Int) + 1 := by omega
 clear hW2 hW3 htl hdl h1t h h1 hv hv2 hg2 hg3 hold3 hlen hO e4 hold hcN hC hCs hCt htk
 go_enter Tryz.func162, Tryz.ntmps162
 go_wp2_with (first
  | (at_builtin; refine Lib.wpList_append_run _ rfl _ _ _ _ rfl _ _ rfl rfl _ _ (hrun _) ?_)
  | (at_builtin; refine wpList_copy_runI _ rfl _ _ 175 175 rfl _ _ rfl rfl (hcp2 _ (cN - i)) ?_))
 go_region_law (refine step_copy_runI rfl _ _ 175 175 rfl _ _ (by simp [Act.eval, Act.put]) (by simp [Act.eval, Act.put]) (hcp1 _ (cN - (i + 1)) (cap - i)) ?_)
 go_wp2_with fail
 go_ret
 rw [E4.out]
 obtain ⟨o1, o2⟩ := HO.out
 exact ⟨cN, rfl, o1, o2.os, o2.tape, o2.output, o2.size, o2.block⟩

end Go.Proofs.YtfclnhmijjlhdaaGreatDoor.Ru

namespace Go.Proofs.YtfclnhmijjlhdaaGreatDoor.Ru
open Rg
open Go.RowKit
set_option linter.unusedVariables false
set_option maxRecDepth 100000

/-- how many of its own a frame has: 1 or 0. -/
def own1 (l : List (Int × Int)) (f : Int) : Nat := if hasF l f = true then 1 else 0
/-- a window's list with a frame's thing. -/
def putL (l : List (Int × Int)) (f x : Int) : List (Int × Int) := l.take (lo l f) ++ (f, x) :: l.drop (lo l f + own1 l f)
/-- what the loop asks of an element. -/
theorem elem_of {l : List (Int × Int)} {f : Int} (hr : Rising l) {k : Nat} {p : Int × Int} (hp : l[k]? = some p) : (k < lo l f → p.1 < f) ∧ (k = lo l f → f ≤ p.1) ∧ (lo l f < k → f < p.1) := by
 have h1 := lo_lt (f := f) hr k p hp
 refine ⟨h1.1, fun e => ?_, fun e => ?_⟩
 · have : ¬ p.1 < f := fun h => by have := h1.2 h; omega
   omega
 · have hk : k < l.length := (List.getElem?_eq_some_iff.1 hp).1
   have hq : l[lo l f]? = some (l[lo l f]'(by omega)) := List.getElem?_eq_getElem _
   have h5 := lo_lt (f := f) hr _ _ hq
   have h6 : (l[lo l f]'(by omega)).1 < p.1 := by
    have := List.pairwise_iff_getElem.1 hr (lo l f) k (by omega) hk e
    rw [(List.getElem?_eq_some_iff.1 hp).2] at this
    exact this
   have : ¬ (l[lo l f]'(by omega)).1 < f := fun h => by have := h5.2 h; omega
   omega

theorem insert_c (n₀ n cap i vb : Nat) (ao : Option Addr) (f x : Int) (xs : List Value) (w : World) (h : w.ownsRow n₀ 189 2 (.slice ao n cap) n xs) (h1 : ∀ u ∈ xs, u.oneCell' = true) (hv : NewAt w vb f x) (hvg : ∀ a, ao = some a → vb ≠ a.block) (hi : i ≤ n) (hn : n ≤ 4096) (hb : n₀ ≤ w.heap.size) :
 Calls Tryz.prog 162 #[.slice ao n cap, .int .i64 i, .slice (some ⟨vb, 0, none⟩) 1 1] w fun e w' => ∃ ao' cap', e = .returned (.slice ao' (n + 1) cap') ∧
  w'.ownsRow n₀ 189 2 (.slice ao' (n + 1) cap') (n + 1) (xs.take (i * 2) ++ [.int .i64 f, .int .u8 x] ++ xs.drop (i * 2)) ∧ w.grownBy w' (Value.ownBlock (.slice ao n cap)) ∧ Near ao ao' w.heap.size := by
 by_cases he : i = n
 · subst he
   have e1 : xs.take (i * 2) = xs := List.take_of_length_le (by rw [h.1]; omega)
   have e2 : xs.drop (i * 2) = [] := List.drop_eq_nil_of_le (by rw [h.1]; omega)
   rw [e1, e2, List.append_nil]
   exact insert_end n₀ i cap vb ao f x xs w h hv hn hb
 · rcases h.2 with ⟨h', rfl⟩ | ⟨g, cap', cur, h', _⟩
   · omega
   · cases h'
     by_cases hr : n + 1 ≤ cap
     · refine (insert_room n₀ g n cap i vb f x xs w h h1 hv (hvg _ rfl) (by omega) hr hn).mono ?_
       rintro e w' ⟨rfl, ho, hg⟩
       exact ⟨_, _, rfl, ho, hg, Near.refl _ _⟩
     · refine (insert_grow n₀ g n cap i vb f x xs w h h1 hv (by omega) (by omega) hn hb).mono ?_
       rintro e w' ⟨c', rfl, ho, hB⟩
       refine ⟨_, c', rfl, ho, ⟨hB.os, hB.tape, hB.output, hB.size, fun k hk _ => hB.block k hk⟩, ?_⟩
       rintro a' e
       cases e
       exact .inr (Nat.le_refl _)

theorem ins_keeps {w w1 : World} {n₀ t e b cap : Nat} {cs : List Value} {ao : Option Addr} {n : Nat} {xs : List Value} (h : Held w n₀ t e 2 b cs ao n cap xs) (hte : t ≠ e) (hg : w.grownBy w1 (Value.ownBlock (.slice ao n cap))) :
 Keeps (Foot b ao) w w1 ∧ w1.heap[b]? = w.heap[b]? := by
 refine ⟨(Keeps.refl _ w).grown hg ?_, hg.block b h.lt ?_⟩
 · intro k hk _
   cases ao with
   | none => simp [Value.ownBlock] at hk
   | some a => exact .inr ⟨a, rfl, by simpa [Value.ownBlock] using hk.symm⟩
 · intro e'
   cases ao with
   | none => simp [Value.ownBlock] at e'
   | some a => exact h.apart hte a rfl (by simpa [Value.ownBlock] using e'.symm)

theorem put_old (i x : Int) (n₀ b size cap : Nat) (first : Int) (ao : Option Addr) (l : List (Int × Int)) (w : World) (h : Win w n₀ 177 189 b size first ao cap l) (hi : i < first) :
 Calls Tryz.prog 133 #[.pointer (some ⟨b, 0, none⟩), .int .i64 i, .int .u8 x] w fun e w' => e = .returned (.int .i64 10) ∧ w = w' := by
 have c1 : w.cell? ⟨b, 1, none⟩ = some (.int .i64 first) := by simpa using h.cell 1
 go_enter Tryz.func133, Tryz.ntmps133
 go_wp2_with fail
 go_ret
 exact ⟨rfl, rfl⟩

theorem put_full (i x : Int) (n₀ b size cap : Nat) (first : Int) (ao : Option Addr) (l : List (Int × Int)) (w : World) (h : Win w n₀ 177 189 b size first ao cap l) (h0 : 0 ≤ first) (hi : first ≤ i) (h63 : i ≤ 9223372036854775807) (hf : (size : Int) ≤ i - first ∨ 1073741824 < i) :
 Calls Tryz.prog 133 #[.pointer (some ⟨b, 0, none⟩), .int .i64 i, .int .u8 x] w fun e w' => e = .returned (.int .i64 8) ∧ ∃ q, w' = w.drewN q := by
 have c0 : w.cell? ⟨b, 0, none⟩ = some (.int .i64 size) := by simpa using h.cell 0
 have c1 : w.cell? ⟨b, 1, none⟩ = some (.int .i64 first) := by simpa using h.cell 1
 have hw : IntKind.i64.wrap (i - first) = i - first := IntWalk.i64_in _ (by omega)
 by_cases h1 : (size : Int) ≤ i - first
 · have d1 : decide ((size : Int) ≤ i - first) = true := by simpa using h1
   go_enter Tryz.func133, Tryz.ntmps133
   go_wp2_with fail
   go_quiet (fail)
   go_wp2_with fail
   go_ret
   exact ⟨rfl, _, rfl⟩
 · have d1 : decide ((size : Int) ≤ i - first) = false := by simp; omega
   have d2 : decide (1073741824 < i) = true := by simp; omega
   go_enter Tryz.func133, Tryz.ntmps133
   go_wp2_with fail
   go_quiet (fail)
   go_wp2_with fail
   go_ret
   exact ⟨rfl, _, rfl⟩

theorem prs_set : ∀ (l : List (Int × Int)) (k : Nat) (p : Int × Int) (x : Int), l[k]? = some p → (prs l).set (k * 2 + 1) (.int .u8 x) = prs (l.take k ++ (p.1, x) :: l.drop (k + 1))
 | [], k, p, x, h => by simp at h
 | q :: l, 0, p, x, h => by
  simp at h
  subst h
  simp [prs_cons]
 | q :: l, k + 1, p, x, h => by
  have := prs_set l k p x (by simpa using h)
  rw [List.take_succ_cons, List.drop_succ_cons, List.cons_append, prs_cons, prs_cons, ← this, show (k + 1) * 2 + 1 = (k * 2 + 1) + 1 + 1 by omega, List.set_cons_succ, List.set_cons_succ]

theorem putL_yes {l : List (Int × Int)} {f x : Int} {p : Int × Int} (hp : l[lo l f]? = some p) (h : hasF l f = true) : putL l f x = l.take (lo l f) ++ (p.1, x) :: l.drop (lo l f + 1) := by
 have e : p.1 = f := by rw [hasF_some hp] at h; simpa using h
 unfold putL own1
 rw [if_pos h, e]
theorem putL_no {l : List (Int × Int)} {f x : Int} (h : hasF l f = false) : putL l f x = l.take (lo l f) ++ [(f, x)] ++ l.drop (lo l f) := by
 unfold putL own1
 rw [h]; simp

set_option maxHeartbeats 1000000 in
theorem put_yes (i x : Int) (n₀ b size cap : Nat) (first : Int) (ao : Option Addr) (l : List (Int × Int)) (w : World) (h : Win w n₀ 177 189 b size first ao cap l) (hr : Rising l) (hl : l.length ≤ 4096) (hn : n₀ ≤ w.heap.size)
 (h0 : 0 ≤ first) (hi1 : first ≤ i) (h63 : i ≤ 1073741824) (hf : i - first < size) (hh : hasF l i = true) :
 Calls Tryz.prog 133 #[.pointer (some ⟨b, 0, none⟩), .int .i64 i, .int .u8 x] w fun e w' => e = .returned (.int .i64 0) ∧
  ∃ ao' cap', Win w' n₀ 177 189 b size first ao' cap' (putL l i x) ∧ Near ao ao' w.heap.size ∧ Keeps (Foot b ao) w w' := by
 have c0 : w.cell? ⟨b, 0, none⟩ = some (.int .i64 size) := by simpa using h.cell 0
 have c1 : w.cell? ⟨b, 1, none⟩ = some (.int .i64 first) := by simpa using h.cell 1
 have hw : IntKind.i64.wrap (i - first) = i - first := IntWalk.i64_in _ (by omega)
 have d1 : decide ((size : Int) ≤ i - first) = false := by simp; omega
 have d2 : decide (1073741824 < i) = false := by simp; omega
 obtain ⟨p, hp⟩ : ∃ p, l[lo l i]? = some p := by
  cases hx : l[lo l i]? with
  | none => rw [hasF_none hx] at hh; cases hh
  | some p => exact ⟨p, rfl⟩
 rw [putL_yes hp hh]
 have hlt : lo l i < l.length := (List.getElem?_eq_some_iff.1 hp).1
 have HS := hid (prs_set l (lo l i) p x hp)
 have HH := hid hh
 obtain ⟨k, K⟩ : ∃ k, Hid (lo l i = k) := ⟨_, rfl⟩
 rw [K.out] at HS hp hlt ⊢
 clear hh
 go_enter Tryz.func133, Tryz.ntmps133
 go_wp2_with fail
 go_quiet (fail)
 go_wp2_with fail
 refine (place_c i n₀ b size cap first ao l _ (h.drewN nq) hr hl).mono ?_
 rintro e w1 ⟨rfl, hB⟩
 rw [K.out, HH.out]
 have h1 := (h.drewN nq).old hB
 have c2 : w1.cell? ⟨b, 2, none⟩ = some (.slice ao l.length cap) := by simpa using h1.cell 2
 obtain ⟨g, rfl, hgl, e3, e4⟩ := win_cell h1.row _ p hp
 have f4 : w1.frozen? ⟨g, k * 2 + 1, none⟩ = false := h1.row.frozenAt _
 obtain ⟨o1, o2⟩ := h1.row.stored (k * 2 + 1) (.int .u8 x)
 have O1 := hid o1
 have m3 : (k : Int) < (l.length : Int) := by omega
 clear hp o1 c0 c1
 go_wp2_with fail
 go_ret
 have hgb : g ≠ b := h1.apart (by decide) _ rfl
 have hBw : Below w.heap.size w w1 := ⟨hB.os, hB.tape, hB.output, hB.size, hB.block⟩
 refine ⟨rfl, _, cap, ⟨?_, h.ge, ?_⟩, Near.refl _ _, keepsOld hBw ((Keeps.refl _ w1).grown o2 (fun j e _ => .inr ⟨_, rfl, by simpa using e.symm⟩))⟩
 · have hlen : (l.take k ++ (p.1, x) :: l.drop (k + 1)).length = l.length := by simp; omega
   rw [hlen]
   exact (o2.block b h1.lt (by simpa using hgb.symm)).trans h1.block
 · have hlen : (l.take k ++ (p.1, x) :: l.drop (k + 1)).length = l.length := by simp; omega
   rw [hlen, ← HS.out]
   exact O1.out

set_option maxHeartbeats 1000000 in
theorem put_no (i x : Int) (n₀ b size cap : Nat) (first : Int) (ao : Option Addr) (l : List (Int × Int)) (w : World) (h : Win w n₀ 177 189 b size first ao cap l) (hr : Rising l) (hl : l.length ≤ 4096) (hn : n₀ ≤ w.heap.size)
 (h0 : 0 ≤ first) (hi1 : first ≤ i) (h63 : i ≤ 1073741824) (hf : i - first < size) (hh : hasF l i = false) :
 Calls Tryz.prog 133 #[.pointer (some ⟨b, 0, none⟩), .int .i64 i, .int .u8 x] w fun e w' => e = .returned (.int .i64 0) ∧
  ∃ ao' cap', Win w' n₀ 177 189 b size first ao' cap' (putL l i x) ∧ Near ao ao' w.heap.size ∧ Keeps (Foot b ao) w w' := by
 have c0 : w.cell? ⟨b, 0, none⟩ = some (.int .i64 size) := by simpa using h.cell 0
 have c1 : w.cell? ⟨b, 1, none⟩ = some (.int .i64 first) := by simpa using h.cell 1
 have hw : IntKind.i64.wrap (i - first) = i - first := IntWalk.i64_in _ (by omega)
 have d1 : decide ((size : Int) ≤ i - first) = false := by simp; omega
 have d2 : decide (1073741824 < i) = false := by simp; omega
 rw [putL_no hh]
 have hlo := lo_le l i
 have HH := hid hh
 obtain ⟨k, K⟩ : ∃ k, Hid (lo l i = k) := ⟨_, rfl⟩
 rw [K.out] at hlo ⊢
 clear hh
 go_enter Tryz.func133, Tryz.ntmps133
 go_wp2_with fail
 go_quiet (fail)
 go_wp2_with fail
 refine (place_c i n₀ b size cap first ao l _ (h.drewN nq) hr hl).mono ?_
 rintro e w1 ⟨rfl, hB⟩
 rw [K.out, HH.out]
 have h1 := (h.drewN nq).old hB
 have hBw : Below w.heap.size w w1 := ⟨hB.os, hB.tape, hB.output, hB.size, hB.block⟩
 have c2 : w1.cell? ⟨b, 2, none⟩ = some (.slice ao l.length cap) := by simpa using h1.cell 2
 have hB2 : Below w1.heap.size w1 (w1.alloc (.cells #[.int .i64 i, .int .u8 x] 189)) := (Below.refl _ w1).alloc (Nat.le_refl _) _
 have h2 := h1.old hB2
 have hi := hid (insert_c n₀ l.length cap k w1.heap.size ao i x (prs l) _ h2.row (prs_one l) (heap_alloc_new w1 _) (fun a ha e => by
  have := h1.footLt a.block (.inr ⟨a, ha, rfl⟩)
  omega) hlo hl (by have := hBw.size; have := hB2.size; omega))
 clear c0 c1
 go_wp2_with (go_at_call 162; ((with_reducible refine hi.out.mono ?_); rintro e w3 ⟨ao', cap', rfl, hown, hg, hnear⟩; have hk3 : Keeps (Foot b ao) (w1.alloc (.cells #[.int .i64 i, .int .u8 x] 189)) w3 ∧ w3.heap[b]? = (w1.alloc (.cells #[.int .i64 i, .int .u8 x] 189)).heap[b]? := ins_keeps h2 (by decide) hg; have c3 : w3.cell? ⟨b, 2, none⟩ = some (.slice ao l.length cap) := (World.cell?_of_block hk3.2).trans (by simpa using h2.cell 2); have f3 : w3.frozen? ⟨b, 2, none⟩ = false := (World.frozen?_of_block hk3.2).trans (h2.frozen 2)))
 go_ret
 obtain ⟨hh, hk2⟩ := h2.stored (by decide) hk3.1 hk3.2 hown
 refine ⟨rfl, ao', cap', ?_, ?_, keepsOld hBw (keepsOld hB2 hk2)⟩
 · have e1 : (l.take k ++ [(i, x)] ++ l.drop k).length = l.length + 1 := by simp; omega
   have e2 : prs (l.take k ++ [(i, x)] ++ l.drop k) = (prs l).take (k * 2) ++ [.int .i64 i, .int .u8 x] ++ (prs l).drop (k * 2) := by rw [prs_append, prs_append, prs_take, prs_drop]; rfl
   show Held _ _ _ _ _ _ _ _ _ _ _
   rw [e1, e2]
   exact hh
 · intro a' ha'
   rcases hnear a' ha' with h5 | h5
   · exact .inl h5
   · exact .inr (by have := hBw.size; have := hB2.size; omega)

theorem put_c (i x : Int) (n₀ b size cap : Nat) (first : Int) (ao : Option Addr) (l : List (Int × Int)) (w : World) (h : Win w n₀ 177 189 b size first ao cap l) (hr : Rising l) (hl : l.length ≤ 4096) (hn : n₀ ≤ w.heap.size)
 (h0 : 0 ≤ first) (hi1 : first ≤ i) (h63 : i ≤ 1073741824) (hf : i - first < size) :
 Calls Tryz.prog 133 #[.pointer (some ⟨b, 0, none⟩), .int .i64 i, .int .u8 x] w fun e w' => e = .returned (.int .i64 0) ∧
  ∃ ao' cap', Win w' n₀ 177 189 b size first ao' cap' (putL l i x) ∧ Near ao ao' w.heap.size ∧ Keeps (Foot b ao) w w' := by
 cases hh : hasF l i with
 | true => exact put_yes i x n₀ b size cap first ao l w h hr hl hn h0 hi1 h63 hf hh
 | false => exact put_no i x n₀ b size cap first ao l w h hr hl hn h0 hi1 h63 hf hh

theorem open_c (size : Nat) (first : Int) (n₀ : Nat) (hs : 1 ≤ size ∧ size ≤ 4096) (hf : 0 ≤ first ∧ first ≤ 1073741824) (w : World) (hn : n₀ ≤ w.heap.size) :
 Calls Tryz.prog 77 #[.int .i64 size, .int .i64 first] w fun e w' => e = .returned (.tuple #[.pointer (some ⟨w.heap.size, 0, none⟩), .int .i64 0]) ∧ Win w' n₀ 177 189 w.heap.size size first none 0 [] ∧ Below w.heap.size w w' := by
 have s := hid (size_yes size (by omega))
 have d1 : decide (first < 0) = false := by simp; omega
 have d2 : decide (1073741824 < first) = false := by simp; omega
 have hN : Win (w.alloc (.cells #[.int .i64 size, .int .i64 first, .slice none 0 0] 177)) n₀ 177 189 w.heap.size size first none 0 [] := Held.new w n₀ 177 189 2 [.int .i64 size, .int .i64 first] hn
 go_enter Tryz.func77, Tryz.ntmps77
 go_wp2_with (go_at_call 73; ((with_reducible refine (isSize_c _ _).mono ?_); rintro e w' ⟨rfl, rfl⟩; rw [s.out]))
 go_ret2
 exact ⟨rfl, hN, (Below.refl _ w).alloc (Nat.le_refl _) _⟩

end Go.Proofs.YtfclnhmijjlhdaaGreatDoor.Ru

namespace Go.Proofs.YtfclnhmijjlhdaaGreatDoor.Ru
open Rg
open Go.RowKit
set_option linter.unusedVariables false

theorem filter_none {l : List (Int × Int)} {q : Int × Int → Bool} (h : ∀ p ∈ l, q p = false) : l.filter q = [] := by
 apply List.filter_eq_nil_iff.2
 intro p hp
 rw [h p hp]; simp
theorem filter_all {l : List (Int × Int)} {q : Int × Int → Bool} (h : ∀ p ∈ l, q p = true) : l.filter q = l := List.filter_eq_self.2 h

theorem take_lo : ∀ {l : List (Int × Int)} {f : Int}, Rising l → l.take (lo l f) = l.filter fun p => decide (p.1 < f)
 | [], _, _ => rfl
 | q :: l, f, hr => by
  obtain ⟨h1, h2⟩ := List.pairwise_cons.1 hr
  by_cases hq : q.1 < f
  · rw [lo_cons_yes hq, List.take_succ_cons, take_lo h2, List.filter_cons, if_pos (by simpa using hq)]
  · rw [lo_cons_no hq, List.take_zero, List.filter_cons, if_neg (by simpa using hq), filter_none]
    intro p hp
    have := h1 p hp
    rw [decide_eq_false_iff_not]; omega
theorem drop_lo : ∀ {l : List (Int × Int)} {f : Int}, Rising l → l.drop (lo l f) = l.filter fun p => decide (f ≤ p.1)
 | [], _, _ => rfl
 | q :: l, f, hr => by
  obtain ⟨h1, h2⟩ := List.pairwise_cons.1 hr
  by_cases hq : q.1 < f
  · rw [lo_cons_yes hq, List.drop_succ_cons, drop_lo h2, List.filter_cons, if_neg (by simp; omega)]
  · rw [lo_cons_no hq, List.drop_zero, filter_all]
    intro p hp
    rcases List.mem_cons.1 hp with rfl | hp
    · rw [decide_eq_true_iff]; omega
    · have := h1 p hp
      rw [decide_eq_true_iff]; omega

/-- a window's list: rising, within so many frames from the first one on, no frame above the last one. -/
structure Good (size : Nat) (first : Int) (l : List (Int × Int)) : Prop where
 up : Rising l
 ge : 0 ≤ first
 mem : ∀ p ∈ l, first ≤ p.1 ∧ p.1 < first + size ∧ p.1 ≤ 1073741824

theorem Good.nil (size : Nat) (first : Int) (h : 0 ≤ first) : Good size first [] := ⟨List.Pairwise.nil, h, fun p hp => by cases hp⟩

theorem rising_len : ∀ {l : List (Int × Int)} {a : Int} {n : Nat}, Rising l → (∀ p ∈ l, a ≤ p.1 ∧ p.1 < a + n) → l.length ≤ n
 | [], _, _, _, _ => Nat.zero_le _
 | q :: l, a, n, hr, h => by
  obtain ⟨h1, h2⟩ := List.pairwise_cons.1 hr
  have hq := h q (by simp)
  obtain ⟨m, rfl⟩ : ∃ m, n = m + 1 := ⟨n - 1, by omega⟩
  have := rising_len (a := a + 1) (n := m) h2 (fun p hp => by
   have e1 := h1 p hp
   have e2 := h p (by simp [hp])
   omega)
  simp; omega
theorem Good.len {size : Nat} {first : Int} {l : List (Int × Int)} (h : Good size first l) : l.length ≤ size := rising_len h.up (fun p hp => ⟨(h.mem p hp).1, (h.mem p hp).2.1⟩)

theorem Good.sub {size : Nat} {first first' : Int} {l k : List (Int × Int)} (h : Good size first l) (hs : k.Sublist l) (hf : first ≤ first') (hk : ∀ p ∈ k, first' ≤ p.1) : Good size first' k := by
 refine ⟨List.Pairwise.sublist hs h.up, Int.le_trans h.ge hf, fun p hp => ?_⟩
 have := h.mem p (hs.subset hp)
 exact ⟨hk p hp, by omega, this.2.2⟩

theorem Good.moved {size : Nat} {first i : Int} {l : List (Int × Int)} (h : Good size first l) (hi : first ≤ i) : Good size i (l.drop (lo l i)) :=
 h.sub (List.drop_sublist _ _) hi (fun p hp => by rw [drop_lo h.up] at hp; simpa using (List.mem_filter.1 hp).2)
theorem Good.cut {size : Nat} {first i : Int} {l : List (Int × Int)} (h : Good size first l) : Good size first (l.take (lo l i)) :=
 h.sub (List.take_sublist _ _) (Int.le_refl _) (fun p hp => (h.mem p (List.mem_of_mem_take hp)).1)

theorem put_behind {l : List (Int × Int)} {f : Int} (hr : Rising l) : ∀ p ∈ l.drop (lo l f + own1 l f), f < p.1 := by
 intro p hp
 obtain ⟨j, hj⟩ := List.mem_iff_getElem?.1 hp
 rw [List.getElem?_drop] at hj
 have he := elem_of (f := f) hr hj
 rcases Nat.lt_or_ge (lo l f) (lo l f + own1 l f + j) with h | h
 · exact he.2.2 h
 · have hj0 : lo l f + own1 l f + j = lo l f := by omega
   have h2 := he.2.1 hj0
   have ho : own1 l f = 0 := by omega
   rw [hj0] at hj
   have : hasF l f = false := by
    cases hh : hasF l f with
    | false => rfl
    | true => simp [own1, hh] at ho
   rw [hasF_some hj] at this
   have : p.1 ≠ f := by simpa using this
   omega
theorem Good.put {size : Nat} {first f x : Int} {l : List (Int × Int)} (h : Good size first l) (h1 : first ≤ f) (h2 : f - first < size) (h3 : f ≤ 1073741824) : Good size first (putL l f x) := by
 have ha : ∀ p ∈ l.take (lo l f), p.1 < f := fun p hp => by rw [take_lo h.up] at hp; simpa using (List.mem_filter.1 hp).2
 have hb := put_behind (f := f) h.up
 refine ⟨?_, h.ge, ?_⟩
 · unfold putL Rising
   rw [List.pairwise_append]
   refine ⟨List.Pairwise.sublist (List.take_sublist _ _) h.up, ?_, ?_⟩
   · rw [List.pairwise_cons]
     exact ⟨hb, List.Pairwise.sublist (List.drop_sublist _ _) h.up⟩
   · intro p hp q hq
     have := ha p hp
     rcases List.mem_cons.1 hq with rfl | hq
     · exact this
     · have := hb q hq
       omega
 · intro p hp
   unfold putL at hp
   rcases List.mem_append.1 hp with hp | hp
   · exact h.mem p (List.mem_of_mem_take hp)
   · rcases List.mem_cons.1 hp with rfl | hp
     · exact ⟨h1, by simp; omega, h3⟩
     · exact h.mem p (List.mem_of_mem_drop hp)

end Go.Proofs.YtfclnhmijjlhdaaGreatDoor.Ru
