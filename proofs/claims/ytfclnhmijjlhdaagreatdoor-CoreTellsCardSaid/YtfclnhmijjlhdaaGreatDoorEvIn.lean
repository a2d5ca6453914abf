/- What slices.Insert returns at a list of events, for one new event (layer 11, event). -/
import Derived.Test.YtfclnhmijjlhdaaGreatDoorJ6
import Derived.Deep.RegionWith
import Derived.Deep.DrawnRows
import Derived.Deep.RegionLaw
import Derived.Shelf.Spec.SlicesInsert
namespace Go.Proofs.YtfclnhmijjlhdaaGreatDoor.Ev
open Go.RowKit
open Go.Proofs.YtfclnhmijjlhdaaGreatDoor.Rg hiding hid
set_option linter.unusedVariables false

theorem run_append_make {P : Program} (w : World) (t tx ty e : TypeId) (i : TypeInfo) (z : Value) (ht : P.underlying t = some (.slice e)) (htx : P.underlying tx = some (.int .i64)) (hi : P.info? e = some i) (hz : i.zero = some z) (base : Option Addr) (sLen sCap : Nat) (olds : List Value)
 (hold : (Builtin.firstCells i.size sLen (.slice base sLen sCap)).run P w.drew = .ok olds.toArray w.drew) (c : Nat) (hc : 0 < c) (hsz : 0 < i.size) (hg : sCap < sLen + c) (h63 : ((sLen + c : Nat) : Int) ≤ 9223372036854775807) (hb : (c : Int) * (i.bytes : Int) ≤ 281474976710656)
 (hfit : Builtin.nextslicecap (sLen + c) sCap * i.bytes ≤ 281474976710656) :
 (Builtin.append_ #[t, tx] ty #[.slice base sLen sCap, .int .i64 (c : Int)]).run P w =
  .ok (.slice (some ⟨w.heap.size, 0, none⟩) (sLen + c) (grownCap w (sLen + c) sCap e))
   (w.drew.alloc (.cells (olds.toArray ++ Builtin.zeroCells z.cells c ++ Builtin.zeroCells z.cells (grownCap w (sLen + c) sCap e - (sLen + c))) e)) := by
 have hn : ¬ (sLen + c ≤ sCap) := by omega
 have h63' : ¬ (9223372036854775807 < ((sLen : Int) + (c : Int))) := by omega
 have h48' : ¬ (281474976710656 < Builtin.nextslicecap (sLen + c) sCap * i.bytes) := by omega
 have hb' : ¬ (281474976710656 < (c : Int) * (i.bytes : Int)) := by omega
 have hw : IntKind.i64.wrap (c : Int) = (c : Int) := IntWalk.i64_in _ (by omega)
 have hc0 : ¬ ((c : Int) < 0) := by omega
 have hcs : ¬ (c = 0 ∨ i.size = 0) := by omega
 simp [Builtin.append_, run_underlying ht, run_underlying htx, sizeOf, typeInfo, zeroValue, hi, hz, hn, h63', h48', hb', hw, hc0, Question.forced, hold, newRow, grownCap, asInt, asIntOf]
 intro h0
 rcases Nat.mul_eq_zero.1 h0 with h | h <;> omega

/-- one new element lies in a block of its own. -/
def NewAt (w : World) (vb : Nat) (y : Ev) : Prop := w.heap[vb]? = some (.cells (ecs y).toArray 120 (0, 0))
theorem NewAt.cells {w : World} {vb : Nat} {y : Ev} (h : NewAt w vb y) : ∀ j u, (ecs y)[j]? = some u → w.cell? ((⟨vb, 0, none⟩ : Addr).add j) = some u := by
 intro j u hu
 rw [Addr.add_lit, cell_of_row w vb _ _ _ _ h]
 simpa using hu

set_option maxRecDepth 100000 in
theorem insert_end (n₀ n cap vb : Nat) (ao : Option Addr) (y : Ev) (xs : List Value) (w : World) (h : w.ownsRow n₀ 120 9 (.slice ao n cap) n xs) (hv : NewAt w vb y) (hn : n ≤ 4096) (hb : n₀ ≤ w.heap.size) :
 Calls Tryz.prog 183 #[.slice ao n cap, .int .i64 n, .slice (some ⟨vb, 0, none⟩) 1 1] w fun e w' => ∃ ao' cap', e = .returned (.slice ao' (n + 1) cap') ∧
  w'.ownsRow n₀ 120 9 (.slice ao' (n + 1) cap') (n + 1) (xs ++ (ecs y)) ∧ w.grownBy w' (Value.ownBlock (.slice ao n cap)) ∧ Rg.Near ao ao' w.heap.size := by
 obtain ⟨i0, hi, hz0, hz1, hz2⟩ := info_parts info_event
 have hcap : n ≤ cap ∧ cap ≤ 9223372036854775807 := by
  rcases h.2 with ⟨h', h0⟩ | ⟨_, _, _, h', _, _, h2, h3, _⟩
  · cases h'; exact ⟨by omega, by omega⟩
  · cases h'; exact ⟨h2, by simpa [maxLen] using h3⟩
 obtain ⟨hc1, hc2⟩ := hcap
 have HV := hid hv
 have HO := hid h
 have fin : ∀ (v' : Value) (w' : World), w'.ownsRow n₀ 120 9 v' (n + 1) (xs ++ (ecs y)) → (v'.ownBlock = Value.ownBlock (.slice ao n cap) ∨ v'.ownBlock = some w.heap.size) → ∃ ao' cap', v' = .slice ao' (n + 1) cap' ∧ Rg.Near ao ao' w.heap.size := by
  intro v' w' ho ha
  obtain ⟨ao', cap', rfl⟩ := row_form ho
  refine ⟨ao', cap', rfl, ?_⟩
  rintro a' rfl
  rcases ha with h1 | h1
  · cases ao with
    | none => simp [Value.ownBlock] at h1
    | some a => exact .inl ⟨a, rfl, by simpa [Value.ownBlock] using h1.symm⟩
  · refine .inr ?_
    simp [Value.ownBlock] at h1
    omega
 have FIN := hid fin
 clear fin
 rcases h.2 with ⟨h', rfl⟩ | ⟨g, cap', cur, h', _⟩
 all_goals
  cases h'
  clear h hv
  go_enter Tryz.func183, Tryz.ntmps183
  go_wp2_with (at_builtin; refine wpList_append_own_at _ rfl (.tmp 23) (.tmp 24) 49 rfl n₀ 120 i0 (ev zeroE) 9 72 Tryz.underlying49 hi hz0 hz1 hz2 rfl (by decide) _ _ _ rfl HO.out ⟨vb, 0, none⟩ 1 1 (ecs y) rfl rfl HV.out.cells (ecs_one y) (by unfold maxLen; omega) (by omega) hb ?_; intro v1 w1 hown1 hg1 _ hat1)
  all_goals
   go_ret
   obtain ⟨ao', cap'', rfl, hnear⟩ := FIN.out v1 w1 hown1 hat1
   exact ⟨ao', cap'', rfl, hown1, hg1, hnear⟩

theorem size_event (w : World) : (sizeOf 120).run Tryz.prog w = .ok 9 w := by
 obtain ⟨i0, hi, hz0, hz1, hz2⟩ := info_parts info_event
 simp [sizeOf, typeInfo, hi, hz1]

set_option maxHeartbeats 2000000 in
set_option maxRecDepth 100000 in
theorem insert_room (n₀ g n cap i vb : Nat) (y : Ev) (xs : List Value) (w : World) (h : w.ownsRow n₀ 120 9 (.slice (some ⟨g, 0, none⟩) n cap) n xs) (h1 : ∀ u ∈ xs, u.oneCell' = true) (hv : NewAt w vb y) (hvg : vb ≠ g) (hi : i < n) (hroom : n + 1 ≤ cap) (hn : n ≤ 4096) :
 Calls Tryz.prog 183 #[.slice (some ⟨g, 0, none⟩) n cap, .int .i64 i, .slice (some ⟨vb, 0, none⟩) 1 1] w fun e w' => e = .returned (.slice (some ⟨g, 0, none⟩) (n + 1) cap) ∧
  w'.ownsRow n₀ 120 9 (.slice (some ⟨g, 0, none⟩) (n + 1) cap) (n + 1) (xs.take (i * 9) ++ (ecs y) ++ xs.drop (i * 9)) ∧ w.grownBy w' (some g) := by
 obtain ⟨i0, hi0, hz0, hz1, hz2⟩ := info_parts info_event
 obtain ⟨cur, hg, hcs, hcm⟩ : ∃ cur, w.heap[g]? = some (.cells cur 120 (0, 0)) ∧ cur.size = cap * 9 ∧ cap ≤ 9223372036854775807 := by
  rcases h.2 with ⟨h', _⟩ | ⟨_, _, cur, h', _, hh, _, h3, h4, _⟩
  · simp at h'
  · cases h'; exact ⟨cur, hh, h4, by simpa [maxLen] using h3⟩
 have hlen := h.1
 have hsa : w.shape? vb = some (120, 9) := by simp [World.shape?, show w.heap[vb]? = _ from hv]
 have hsb : w.shape? g = some (120, cap * 9) := by simp [World.shape?, hg, hcs]
 have hfa : w.frozen? ⟨vb, 0, none⟩ = false := frozen_of_row w vb 0 _ _ hv
 have hfe : w.frozen? ⟨vb, 9, none⟩ = false := frozen_of_row w vb 9 _ _ hv
 have hov : ∀ lb cb, (callFunc 221 #[.slice (some ⟨vb, 0, none⟩) 1 1, .slice (some ⟨g, (i + 1) * 9, none⟩) lb cb]).run Tryz.prog w = .ok (.value (.bool false)) w := fun lb cb => by
  rw [run_callFunc_extern Tryz.func221 (by kernel_rfl) (by kernel_rfl) (by kernel_rfl) (e := Extern.SlicesOverlaps.overlaps #[49, 49] #[4]) (by kernel_rfl),
   Lib.run_overlaps_apart w 49 4 120 Tryz.underlying49 9 size_event ⟨vb, 0, none⟩ ⟨g, (i + 1) * 9, none⟩ 1 1 lb cb hvg 120 120 9 (cap * 9) hsa hsb (by omega) hfa hfe]
  rfl
 obtain ⟨tl, htl⟩ : ∃ tl, tl = xs.drop (i * 9) := ⟨_, rfl⟩
 have hdl : tl.length = (n - i) * 9 := by rw [htl, List.length_drop, hlen]; omega
 have h1t : ∀ u ∈ tl, u.oneCell' = true := fun u hu => h1 u (List.mem_of_mem_drop (by rw [← htl]; exact hu))
 have hcp1 : ∀ ty dc sc, (Builtin.copy_ #[49, 49] ty #[.slice (some ⟨g, (i + 1) * 9, none⟩) (n + 1 - (i + 1)) dc, .slice (some ⟨g, i * 9, none⟩) (n + 1 - i) sc]).run Tryz.prog w.drew = .ok (goInt (Nat.min (n + 1 - i) (n + 1 - (i + 1)))) (w.drew.setCells g ((i + 1) * 9) tl) := fun ty dc sc =>
  run_copy_k w.drew _ _ ty 120 i0 9 g ((i + 1) * 9) (n + 1 - (i + 1)) dc ⟨g, i * 9, none⟩ (n + 1 - i) sc tl Tryz.underlying49 hi0 hz1 (by rw [hdl]; simp only [Nat.min_def]; split <;> omega)
   (fun j v hj => by rw [Addr.add_lit]; exact row_from h (i * 9) j v (by rw [← htl]; exact hj))
   (fun j hj => (setCells_there (w := w.drew) hg _ (by omega)).1) (fun j hj => (setCells_there (w := w.drew) hg _ (by omega)).2) h1t
 obtain ⟨W1, hW1⟩ : ∃ W1, W1 = w.drew.setCells g ((i + 1) * 9) tl := ⟨_, rfl⟩
 have hg1 : W1.heap[g]? = some (.cells (splice cur ((i + 1) * 9) tl) 120 (0, 0)) := by rw [hW1]; exact setCells_block g _ _ _ _ _ hg
 have hv1 : NewAt W1 vb y := by
  rw [hW1]
  exact ((setCells_grown g tl ((i + 1) * 9) w.drew).block vb (Array.getElem?_eq_some_iff.1 hv).1 (by simpa using hvg)).trans hv
 have hcp2 : ∀ ty dc, (Builtin.copy_ #[49, 49] ty #[.slice (some ⟨g, i * 9, none⟩) (n + 1 - i) dc, .slice (some ⟨vb, 0, none⟩) 1 1]).run Tryz.prog W1 = .ok (goInt (Nat.min 1 (n + 1 - i))) (W1.setCells g (i * 9) (ecs y)) := fun ty dc =>
  run_copy_k W1 _ _ ty 120 i0 9 g (i * 9) (n + 1 - i) dc ⟨vb, 0, none⟩ 1 1 (ecs y) Tryz.underlying49 hi0 hz1 (by simp only [Nat.min_def, List.length_cons, List.length_nil]; split <;> omega)
   hv1.cells (fun j hj => (setCells_there hg1 _ (by rw [splice_size]; simp at hj; omega)).1) (fun j hj => (setCells_there hg1 _ (by rw [splice_size]; simp at hj; omega)).2) (ecs_one y)
 rw [← hW1] at hcp1
 have HW := hid hW1
 have HT := hid htl
 have HO := hid (ins_own (ys := (ecs y)) h (Nat.le_of_lt hi) hroom rfl 1)
 have z2 : ((i : Int) == (n : Int)) = false := by simp; omega
 have hw1 : IntKind.i64.wrap ((i : Int) + 1) = (i : Int) + 1 := IntWalk.i64_in _ (by omega)
 have hb1 : (0 : Int) ≤ (i : Int) + 1 := by omega
 have hin : i ≤ n := by omega
 have htn : ((i : Int) + 1).toNat = i + 1 := by omega
 have hb2 : ¬ (cap = i + 1) := by omega
 have hb3 : (i : Int) ≤ (n : Int) + 1 := by omega
 have hb4 : ¬ (cap = i) := by omega
 have hb5 : (n : Int) + 1 ≤ (cap : Int) := by omega
 clear hW1 htl hdl h1t hg hcs h h1 hsa hsb hfa hfe hv hv1 hg1 hlen
 go_enter Tryz.func183, Tryz.ntmps183
 go_wp2_with (simp only [hov])
 go_region_law (refine step_copy_runI rfl _ _ 49 49 rfl _ _ (by simp [Act.eval, Act.put]) (by simp [Act.eval, Act.put]) (hcp1 _ (cap - (i + 1)) (cap - i)) ?_)
 go_wp2_with (at_builtin; refine wpList_copy_runI _ rfl _ _ 49 49 rfl _ _ rfl rfl (hcp2 _ (cap - i)) ?_)
 go_ret
 have := HO.out
 rw [HW.out, HT.out, show (i + 1) * 9 = i * 9 + (ecs y).length by simp; omega]
 exact ⟨rfl, this⟩

theorem size_zeros (n : Nat) : (Builtin.zeroCells (ev zeroE).cells n).size = n * 9 := by
 show (Builtin.zeroCells #[Value.int .i64 0, Value.int .i64 0, Value.int .i64 0, Value.int .i64 0, Value.int .i64 0, Value.int .i64 0, Value.int .i64 0, Value.int .i64 0, Value.int .i64 0] n).size = _
 simp [Builtin.zeroCells]

set_option maxHeartbeats 2000000 in
set_option maxRecDepth 100000 in
theorem insert_grow (n₀ g n cap i vb : Nat) (y : Ev) (xs : List Value) (w : World) (h : w.ownsRow n₀ 120 9 (.slice (some ⟨g, 0, none⟩) n cap) n xs) (h1 : ∀ u ∈ xs, u.oneCell' = true) (hv : NewAt w vb y) (hi : i < n) (hroom : cap < n + 1) (hn : n ≤ 4096) (hb : n₀ ≤ w.heap.size) :
 Calls Tryz.prog 183 #[.slice (some ⟨g, 0, none⟩) n cap, .int .i64 i, .slice (some ⟨vb, 0, none⟩) 1 1] w fun e w' => ∃ cap', e = .returned (.slice (some ⟨w.heap.size, 0, none⟩) (n + 1) cap') ∧
  w'.ownsRow n₀ 120 9 (.slice (some ⟨w.heap.size, 0, none⟩) (n + 1) cap') (n + 1) (xs.take (i * 9) ++ (ecs y) ++ xs.drop (i * 9)) ∧ Below w.heap.size w w' := by
 obtain ⟨i0, hi0, hz0, hz1, hz2⟩ := info_parts info_event
 have hcap : n ≤ cap := by
  rcases h.2 with ⟨h', _⟩ | ⟨_, _, cur, h', _, hh, h3, _⟩
  · simp at h'
  · cases h'; exact h3
 have hgl : g < w.heap.size := by
  rcases h.2 with ⟨h', _⟩ | ⟨_, _, cur, h', _, hh, _⟩
  · simp at h'
  · cases h'; exact (Array.getElem?_eq_some_iff.1 hh).1
 have hvl : vb < w.heap.size := (Array.getElem?_eq_some_iff.1 hv).1
 have hlen := h.1
 have htk : (xs.take (i * 9)).length = i * 9 := by rw [List.length_take, hlen]; omega
 obtain ⟨cN, hcN⟩ : ∃ cN, cN = grownCap w (n + 1) cap 120 := ⟨_, rfl⟩
 have hc1 : n + 1 ≤ cN := by rw [hcN]; exact grownCap_ge w _ _ _
 have hc2 : cN ≤ maxLen := by rw [hcN]; exact grownCap_le_maxLen w _ _ _ (by unfold maxLen; omega)
 have hold : (Builtin.firstCells i0.size i (.slice (some ⟨g, 0, none⟩) i cap)).run Tryz.prog w.drew = .ok (xs.take (i * 9)).toArray w.drew := by
  refine run_firstCells_some (P := Tryz.prog) w.drew i0.size i ⟨g, 0, none⟩ i cap (xs.take (i * 9)) (by rw [htk, hz1]) (fun j v hj => ?_)
  rw [Addr.add_lit]
  refine row_from h 0 j v ?_
  rw [List.getElem?_take] at hj
  split at hj
  · simpa using hj
  · cases hj
 obtain ⟨C, hC⟩ : ∃ C, C = (xs.take (i * 9)).toArray ++ Builtin.zeroCells (ev zeroE).cells (n + 1 - i) ++ Builtin.zeroCells (ev zeroE).cells (cN - (n + 1)) := ⟨_, rfl⟩
 have hCs : C.size = cN * 9 := by rw [hC, Array.size_append, Array.size_append, size_zeros, size_zeros, List.size_toArray, htk]; omega
 have hCt : C.toList.take (i * 9) = xs.take (i * 9) := by
  rw [hC, Array.toList_append, Array.toList_append, List.append_assoc, List.take_append_of_le_length (by simp [htk]), List.take_of_length_le (by simp [htk])]
 have hrun : ∀ ty, (Builtin.append_ #[49, 3] ty #[.slice (some ⟨g, 0, none⟩) i cap, .int .i64 ((n : Int) + 1 - (i : Int))]).run Tryz.prog w = .ok (.slice (some ⟨w.heap.size, 0, none⟩) (n + 1) cN) (w.drew.alloc (.cells C 120)) := by
  intro ty
  have := run_append_make w 49 3 ty 120 i0 (ev zeroE) Tryz.underlying49 Tryz.underlying3 hi0 hz0 (some ⟨g, 0, none⟩) i cap (xs.take (i * 9)) hold (n + 1 - i) (by omega) (by omega) (by omega) (by omega) (by rw [hz2]; omega) (growslice_fits (by omega) (by rw [hz2]; omega))
  rw [show i + (n + 1 - i) = n + 1 by omega, ← hcN, ← hC, show (((n + 1 - i : Nat)) : Int) = (n : Int) + 1 - (i : Int) by omega] at this
  exact this
 obtain ⟨tl, htl⟩ : ∃ tl, tl = xs.drop (i * 9) := ⟨_, rfl⟩
 have hdl : tl.length = (n - i) * 9 := by rw [htl, List.length_drop, hlen]; omega
 have h1t : ∀ u ∈ tl, u.oneCell' = true := fun u hu => h1 u (List.mem_of_mem_drop (by rw [← htl]; exact hu))
 obtain ⟨W2, hW2⟩ : ∃ W2, W2 = w.drew.alloc (.cells C 120) := ⟨_, rfl⟩
 have hg2 : W2.heap[w.heap.size]? = some (.cells C 120 (0, 0)) := by rw [hW2]; exact heap_alloc_new w.drew _
 have hv2 : NewAt W2 vb y := by rw [hW2]; exact (Below.heap_alloc w.drew _ vb hvl).trans hv
 have hcp2 : ∀ ty dc, (Builtin.copy_ #[49, 49] ty #[.slice (some ⟨w.heap.size, i * 9, none⟩) (n + 1 - i) dc, .slice (some ⟨vb, 0, none⟩) 1 1]).run Tryz.prog W2 = .ok (goInt (Nat.min 1 (n + 1 - i))) (W2.setCells w.heap.size (i * 9) (ecs y)) := fun ty dc =>
  run_copy_k W2 _ _ ty 120 i0 9 w.heap.size (i * 9) (n + 1 - i) dc ⟨vb, 0, none⟩ 1 1 (ecs y) Tryz.underlying49 hi0 hz1 (by simp only [Nat.min_def, List.length_cons, List.length_nil]; split <;> omega)
   hv2.cells (fun j hj => (setCells_there hg2 _ (by simp at hj; omega)).1) (fun j hj => (setCells_there hg2 _ (by simp at hj; omega)).2) (ecs_one y)
 obtain ⟨W3, hW3⟩ : ∃ W3, W3 = W2.setCells w.heap.size (i * 9) (ecs y) := ⟨_, rfl⟩
 have hg3 : W3.heap[w.heap.size]? = some (.cells (splice C (i * 9) (ecs y)) 120 (0, 0)) := by rw [hW3]; exact setCells_block _ _ _ _ _ _ hg2
 have hold3 : W3.heap[g]? = w.heap[g]? := by
  rw [hW3]
  refine ((setCells_grown w.heap.size _ _ W2).block g (by rw [hW2]; simp; omega) (by simp; omega)).trans ?_
  rw [hW2]
  exact Below.heap_alloc w.drew _ g hgl
 have hcp1 : ∀ ty dc sc, (Builtin.copy_ #[49, 49] ty #[.slice (some ⟨w.heap.size, (i + 1) * 9, none⟩) (n + 1 - (i + 1)) dc, .slice (some ⟨g, i * 9, none⟩) (n - i) sc]).run Tryz.prog W3.drew = .ok (goInt (Nat.min (n - i) (n + 1 - (i + 1)))) (W3.drew.setCells w.heap.size ((i + 1) * 9) tl) := fun ty dc sc =>
  run_copy_k W3.drew _ _ ty 120 i0 9 w.heap.size ((i + 1) * 9) (n + 1 - (i + 1)) dc ⟨g, i * 9, none⟩ (n - i) sc tl Tryz.underlying49 hi0 hz1 (by rw [hdl]; simp only [Nat.min_def]; split <;> omega)
   (fun j v hj => by rw [Addr.add_lit]; exact (World.cell?_of_block (w := w) (w' := W3.drew) (a := ⟨g, i * 9 + j, none⟩) hold3).trans (row_from h (i * 9) j v (by rw [← htl]; exact hj)))
   (fun j hj => (setCells_there (w := W3.drew) hg3 _ (by rw [splice_size]; omega)).1) (fun j hj => (setCells_there (w := W3.drew) hg3 _ (by rw [splice_size]; omega)).2) h1t
 have hO := ins_new (w := w.drew.drew) (n₀ := n₀) (e := 120) (sz := 9) (ys := (ecs y)) (cur := C) hlen (Nat.le_of_lt hi) rfl hb hc1 hc2 hCs hCt
 have e4 : W3.drew.setCells w.heap.size ((i + 1) * 9) tl = (((w.drew.drew.alloc (.cells C 120)).setCells w.heap.size (i * 9) (ecs y)).setCells w.heap.size (i * 9 + (ecs y).length) (xs.drop (i * 9))) := by
  rw [hW3, hW2, drew_setCells, htl, show (i + 1) * 9 = i * 9 + (ecs y).length by simp; omega]
  rfl
 rw [← hW2] at hrun
 rw [← hW3] at hcp2
 have HO := hid hO
 have E4 := hid e4
 have z2 : ((i : Int) == (n : Int)) = false := by simp; omega
 have z3 : decide ((cap : Int) < (n : Int) + 1) = true := by simp; omega
 have hw1 : IntKind.i64.wrap ((i : Int) + 1) = (i : Int) + 1 := IntWalk.i64_in _ (by omega)
 have hb1 : (0 : Int) ≤ (i : Int) + 1 := by omega
 have hin : i ≤ n := by omega
 have hic : i ≤ cap := by omega
 have htn : ((i : Int) + 1).toNat = i + 1 := by omega
 have hb2 : ¬ (cN = i + 1) := by omega
 have hb3 : (i : Int) ≤ (n : Int) + 1 := by omega
 have hb4 : ¬ (cap = i) := by omega
 have hb6 : ¬ (cN = i) := by omega
 have hb7 : (i : Int) + 1 ≤ (n : Int) + 1 := by omega
 clear hW2 hW3 htl hdl h1t h h1 hv hv2 hg2 hg3 hold3 hlen hO e4 hold hcN hC hCs hCt htk
 go_enter Tryz.func183, Tryz.ntmps183
 go_wp2_with (first
  | (at_builtin; refine Lib.wpList_append_run _ rfl _ _ _ _ rfl _ _ rfl rfl _ _ (hrun _) ?_)
  | (at_builtin; refine wpList_copy_runI _ rfl _ _ 49 49 rfl _ _ rfl rfl (hcp2 _ (cN - i)) ?_))
 go_region_law (refine step_copy_runI rfl _ _ 49 49 rfl _ _ (by simp [Act.eval, Act.put]) (by simp [Act.eval, Act.put]) (hcp1 _ (cN - (i + 1)) (cap - i)) ?_)
 go_wp2_with fail
 go_ret
 rw [E4.out]
 obtain ⟨o1, o2⟩ := HO.out
 exact ⟨cN, rfl, o1, o2.os, o2.tape, o2.output, o2.size, o2.block⟩


end Go.Proofs.YtfclnhmijjlhdaaGreatDoor.Ev
