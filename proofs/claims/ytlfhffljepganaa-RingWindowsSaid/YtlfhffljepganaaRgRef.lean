/- What the document's rings (promptbookref04) return and leave of the memory: Push, Take; and whether two lists are the same. -/
import Derived.Test.YtlfhffljepganaaRgTake
import Derived.Laws.AppendOwnNone
namespace Go.Proofs.Ytlfhffljepganaa.Rg
open Go.RowKit
set_option linter.unusedVariables false

theorem rpush_full (x : Int) (n₀ b size cap : Nat) (ao : Option Addr) (l : List Int) (w : World) (h : Ring w n₀ 31 b size ao cap l) (hl : l.length = size) :
    Calls Try.prog 10 #[.pointer (some ⟨b, 0, none⟩), .int .i64 x] w fun e w' => e = .returned (.int .i64 8) ∧ ∃ q, w' = w.drewN q := by
  have c0 : w.cell? ⟨b, 0, none⟩ = some (.int .i64 size) := by simpa using h.cell 0
  have c1 : w.cell? ⟨b, 1, none⟩ = some (.slice ao l.length cap) := by simpa using h.cell 1
  have h0 : ((l.length : Int) == (size : Int)) = true := by simp; omega
  clear hl
  go_enter Try.func10, Try.ntmps10
  go_wp2_with fail
  go_quiet (fail)
  go_wp2
  go_ret
  exact ⟨rfl, _, rfl⟩

theorem rpush_below {w w1 w2 : World} {n₀ t e b cap : Nat} {cs : List Value} {ao : Option Addr} {n q : Nat} {xs : List Value} {o o' : Obj} {v1 : Value} {k : Nat} {ys : List Value} (h : Held w n₀ t e 1 b cs ao n cap xs)
    (hg1 : ((w.drewN q).alloc o).grownBy w1 (Value.ownBlock (.slice (some ⟨w.heap.size, 0, none⟩) 0 0))) (hown1 : w1.ownsRow w.heap.size e 1 v1 k ys) (hg2 : (w1.alloc o').grownBy w2 v1.ownBlock) : Below w.heap.size w w2 := by
  have h0 : Below w.heap.size w (w.drewN q) := ⟨rfl, rfl, rfl, Nat.le_refl _, fun _ _ => rfl⟩
  have h1 : Below w.heap.size w w1 := (h0.alloc (Nat.le_refl _) o).grown hg1 (by simp) (fun i hi => by simp [Value.ownBlock] at hi; omega)
  exact (h1.alloc h1.size o').grown hg2 (by have := h1.size; simp; omega) (fun i hi => (hown1.lt i hi).1)

theorem rpush_c (x : Int) (n₀ b size cap : Nat) (ao : Option Addr) (l : List Int) (w : World) (h : Ring w n₀ 31 b size ao cap l) (hs : size ≤ 4096) (hl : l.length < size) (hn : n₀ ≤ w.heap.size) :
    Calls Try.prog 10 #[.pointer (some ⟨b, 0, none⟩), .int .i64 x] w fun e w' => e = .returned (.int .i64 0) ∧
      ∃ ao' cap', Ring w' n₀ 31 b size ao' cap' (l ++ [x]) ∧ Near ao ao' w.heap.size ∧ Keeps (Foot b ao) w w' := by
  have c0 : w.cell? ⟨b, 0, none⟩ = some (.int .i64 size) := by simpa using h.cell 0
  have c1 : w.cell? ⟨b, 1, none⟩ = some (.slice ao l.length cap) := by simpa using h.cell 1
  have h0 : ((l.length : Int) == (size : Int)) = false := by simp; omega
  have hb := h.lt
  obtain ⟨i0, hi, hz0, hz1, hz2⟩ := info_parts info_int
  have ca : ∀ q o, ((w.drewN q).alloc o).cell? ⟨b, 1, none⟩ = some (.slice ao l.length cap) := fun q o => (World.cell?_alloc_past (w := w.drewN q) o b 1 hb).trans c1
  go_enter Try.func10, Try.ntmps10
  go_wp2_with fail
  go_quiet (fail)
  go_wp2_with (first
    | (at_builtin; refine wpList_append_row _ rfl (.tmp 16) (.tmp 20) 29 rfl w.heap.size n₀ 3 i0 (.int .i64 0) 1 8 Try.underlying29 hi hz0 hz1 hz2 rfl (by decide) _ 0 [] rfl (World.ownsRow_made _ #[] 0 (Nat.le_refl _) (by decide) rfl) ao l.length cap (ints l) rfl ((h.drewN _).row.alloc _) (ints_one l) (by unfold maxLen; omega) (by omega) (by simp) ?_; intro v1 w1 hown1 hg1 hat1)
    | (at_builtin; refine wpList_append_own_at _ rfl (.tmp 21) (.tmp 23) 29 rfl w.heap.size 3 i0 (.int .i64 0) 1 8 Try.underlying29 hi hz0 hz1 hz2 rfl (by decide) _ _ _ rfl (hown1.alloc _) ⟨w1.heap.size, 0, none⟩ 1 1 [.int .i64 x] rfl rfl (cell_one_new _ _ _) (by simp [Value.oneCell']) (by unfold maxLen; omega) (by omega) (by have := hg1.size; simp at this; simp; omega) ?_; intro v2 w2 hown2 hg2 _ hat2; have hB := rpush_below h hg1 hown1 hg2; obtain ⟨hk, hblk, ao', cap', rfl, hnear, hown3⟩ := fresh_step h hB hown2 hn; have c2 : w2.cell? ⟨b, 1, none⟩ = some (.slice ao l.length cap) := (World.cell?_of_block hblk).trans c1; have f2 : w2.frozen? ⟨b, 1, none⟩ = false := (World.frozen?_of_block hblk).trans (h.frozen 1)))
  go_ret
  rw [Nat.zero_add, List.nil_append] at hown3
  obtain ⟨hh, hk2⟩ := h.stored (by decide) hk hblk hown3
  refine ⟨rfl, ao', cap', ?_, hnear, hk2⟩
  have e1 : (l ++ [x]).length = l.length + 1 := by simp
  show Held _ _ _ _ _ _ _ _ _ _ _
  rw [e1, ints_snoc]
  exact hh

theorem rtake_no (i : Int) (n₀ b size cap : Nat) (ao : Option Addr) (l : List Int) (w : World) (h : Ring w n₀ 31 b size ao cap l) (hB : atB l i = false) :
    Calls Try.prog 31 #[.pointer (some ⟨b, 0, none⟩), .int .i64 i] w fun e w' => e = .returned (.tuple #[.int .i64 0, .bool false]) ∧ w = w' := by
  have c1 : w.cell? ⟨b, 1, none⟩ = some (.slice ao l.length cap) := by simpa using h.cell 1
  by_cases h0 : i < 0
  · clear hB c1
    go_enter Try.func31, Try.ntmps31
    go_wp2_with fail
    go_ret2
    exact ⟨rfl, rfl⟩
  · have h1 : (l.length : Int) ≤ i := by
      by_cases h1 : (l.length : Int) ≤ i
      · exact h1
      · have : atB l i = true := by simp [atB]; omega
        rw [hB] at this; cases this
    clear hB
    go_enter Try.func31, Try.ntmps31
    go_wp2_with fail
    go_ret2
    exact ⟨rfl, rfl⟩

set_option maxHeartbeats 1600000 in
theorem rtake_in (k n₀ b size cap : Nat) (g : Nat) (l : List Int) (w : World) (h : Ring w n₀ 31 b size (some ⟨g, 0, none⟩) cap l) (hk : k < l.length) (hl : l.length ≤ 4096) (hn : n₀ ≤ w.heap.size) (y : Int) (hy : w.cell? ⟨g, k, none⟩ = some (.int .i64 y)) :
    Calls Try.prog 31 #[.pointer (some ⟨b, 0, none⟩), .int .i64 k] w fun e w' => e = .returned (.tuple #[.int .i64 y, .bool true]) ∧
      ∃ ao' cap', Ring w' n₀ 31 b size ao' cap' (l.take k ++ l.drop (k + 1)) ∧ Near (some ⟨g, 0, none⟩) ao' w.heap.size ∧ Keeps (Foot b (some ⟨g, 0, none⟩)) w w' := by
  have c1 : w.cell? ⟨b, 1, none⟩ = some (.slice (some ⟨g, 0, none⟩) l.length cap) := by simpa using h.cell 1
  obtain ⟨i0, hi, hz0, hz1, hz2⟩ := info_parts info_int
  have hb := h.lt
  have hcap : l.length ≤ cap := h.capLe.1
  have hcapm : cap ≤ 9223372036854775807 := by simpa [maxLen] using h.capLe.2
  have hwr : IntKind.i64.wrap ((k : Int) + 1) = (k : Int) + 1 := IntWalk.i64_in _ (by omega)
  have hp0 : (0 : Int) ≤ (k : Int) + 1 := by omega
  have hp1 : (k : Int) + 1 ≤ (l.length : Int) := by omega
  have hp2 : ((k : Int) + 1).toNat = k + 1 := by omega
  have hkc : k ≤ cap := by omega
  have hkc1 : k + 1 ≤ cap := by omega
  have ca : ∀ o, (w.alloc o).cell? ⟨b, 1, none⟩ = some (.slice (some ⟨g, 0, none⟩) l.length cap) := fun o => (World.cell?_alloc_past o b 1 hb).trans c1
  obtain ⟨A, hA, hsrc⟩ : ∃ A : Addr, (if cap = k + 1 then some (⟨g, 0, none⟩ : Addr) else some ⟨g, k + 1, none⟩) = some A ∧ Hid (∀ W : World, Below w.heap.size w W → ∀ t u, ((ints l).drop (k + 1))[t]? = some u → W.cell? (A.add t) = some u) := by
    have hlt : g < w.heap.size := h.footLt g (.inr ⟨_, rfl, rfl⟩)
    by_cases hc : cap = k + 1
    · refine ⟨⟨g, 0, none⟩, by simp [hc], fun W _ t u hu => ?_⟩
      have h0 : ((ints l).drop (k + 1)).length = 0 := by rw [List.length_drop, ints_len]; omega
      rw [List.length_eq_zero_iff.1 h0] at hu
      simp at hu
    · refine ⟨⟨g, k + 1, none⟩, by simp [hc], fun W hW t u hu => ?_⟩
      rw [Addr.add_lit]
      exact (hW.cell (p := ⟨g, k + 1 + t, none⟩) hlt).trans (row_from h.row (k + 1) t u hu)
  have hm0 := hid (World.ownsRow_made (e := 3) (size := 1) w #[] 0 (Nat.le_refl _) (by decide) rfl)
  have ht0 : Hid (∀ (W : World) (o : Obj), W.heap = (w.alloc o).heap → ∀ t u, ((ints l).take k)[t]? = some u → W.cell? ((⟨g, 0, none⟩ : Addr).add t) = some u) := by
    intro W o hW t u hu
    rw [Addr.add_lit]
    have hlt : g < w.heap.size := h.footLt g (.inr ⟨_, rfl, rfl⟩)
    have e1 : W.heap[g]? = w.heap[g]? := by rw [hW]; exact Below.heap_alloc w o g hlt
    refine (World.cell?_of_block (a := ⟨g, 0 + t, none⟩) e1).trans (row_from h.row 0 t u ?_)
    rw [List.getElem?_take] at hu
    split at hu
    · simpa using hu
    · cases hu
  have hl1 : Hid (((ints l).take k).length = k * 1) := by show _ = _; rw [List.length_take, ints_len]; omega
  have hl2 : Hid (((ints l).drop (k + 1)).length = (l.length - (k + 1)) * 1) := by show _ = _; rw [List.length_drop, ints_len]; omega
  have o1 := hid (fun u (hu : u ∈ (ints l).take k) => ints_one l u (List.mem_of_mem_take hu))
  have o2 := hid (fun u (hu : u ∈ (ints l).drop (k + 1)) => ints_one l u (List.mem_of_mem_drop hu))
  go_enter Try.func31, Try.ntmps31
  go_wp2_with fail
  go_region_law (first
    | (refine step_append_at _ rfl (.tmp 26) (.tmp 32) 29 rfl w.heap.size 3 i0 (.int .i64 0) 1 8 Try.underlying29 hi hz0 hz1 hz2 rfl (by decide) (.slice (some ⟨w.heap.size, 0, none⟩) 0 0) 0 [] (by simp [Act.eval, Act.put]) (by exact row_heap rfl hm0.out) ⟨g, 0, none⟩ k cap ((ints l).take k) (by simp [Act.eval, Act.put]) hl1.out (by exact ht0.out _ (.cells #[] 3) rfl) o1.out (by unfold maxLen; omega) (by omega) (by simp) k (Nat.zero_add _) ((ints l).take k) (List.nil_append _) ?_; intro ao1 cap1 w1 hown1 hg1; have hB1 := below_new (w := w) (.cells #[] 3) hg1 rfl rfl rfl rfl (fun i hi => Nat.le_of_eq (by simpa [Value.ownBlock] using hi)); have c3 : w1.cell? ⟨b, 1, none⟩ = some (.slice (some ⟨g, 0, none⟩) l.length cap) := (hB1.cell (p := ⟨b, 1, none⟩) hb).trans c1)
    | (refine step_append_at _ rfl (.tmp 33) (.tmp 40) 29 rfl w.heap.size 3 i0 (.int .i64 0) 1 8 Try.underlying29 hi hz0 hz1 hz2 rfl (by decide) (.slice ao1 k cap1) k ((ints l).take k) (by simp [Act.eval, Act.put]) hown1 A (l.length - (k + 1)) (cap - (k + 1)) ((ints l).drop (k + 1)) (by simp [Act.eval, Act.put]) hl2.out (hsrc.out w1 hB1) o2.out (by unfold maxLen; omega) (by omega) hB1.size (k + (l.length - (k + 1))) rfl ((ints l).take k ++ (ints l).drop (k + 1)) rfl ?_; intro ao2 cap2 w2 hown2 hg2; have hB2 := hB1.grown hg2 hB1.size (fun i hi => (hown1.lt i hi).1); have c2 : w2.cell? ⟨b, 1, none⟩ = some (.slice (some ⟨g, 0, none⟩) l.length cap) := (hB2.cell (p := ⟨b, 1, none⟩) hb).trans c1; have f2 : w2.frozen? ⟨b, 1, none⟩ = false := (hB2.frozen (p := ⟨b, 1, none⟩) hb).trans (h.frozen 1)))
  all_goals go_wp2
  all_goals go_ret2
  all_goals
    obtain ⟨hk1, hblk, ao', cap', he, hnear, hown3⟩ := fresh_step h hB2 hown2 hn
    cases he
    obtain ⟨hh, hk2⟩ := h.stored (by decide) hk1 hblk hown3
    refine ⟨rfl, ao2, cap2, ?_, hnear, hk2⟩
    have e1 : (l.take k ++ l.drop (k + 1)).length = k + (l.length - (k + 1)) := by simp; omega
    have e2 : ints (l.take k ++ l.drop (k + 1)) = (ints l).take k ++ (ints l).drop (k + 1) := by simp [ints]
    show Held _ _ _ _ _ _ _ _ _ _ _
    rw [e1, e2]
    exact hh

theorem rtake_c (i : Int) (n₀ b size cap : Nat) (ao : Option Addr) (l : List Int) (w : World) (h : Ring w n₀ 31 b size ao cap l) (hl : l.length ≤ 4096) (hn : n₀ ≤ w.heap.size) :
    Calls Try.prog 31 #[.pointer (some ⟨b, 0, none⟩), .int .i64 i] w fun e w' => e = .returned (.tuple #[.int .i64 (atI l i), .bool (atB l i)]) ∧
      ∃ ao' cap', Ring w' n₀ 31 b size ao' cap' (takeL l i) ∧ Near ao ao' w.heap.size ∧ Keeps (Foot b ao) w w' := by
  by_cases hB : atB l i = true
  · have hi : 0 ≤ i ∧ i < l.length := by simpa [atB] using hB
    obtain ⟨k, rfl⟩ := Int.eq_ofNat_of_zero_le hi.1
    have hk : k < l.length := by omega
    obtain ⟨g, rfl, hc⟩ := row_cell h.row k hk
    rw [takeL_in hk, (at_in hk).1, (at_in hk).2]
    exact rtake_in k n₀ b size cap g l w h hk hl hn _ hc
  · have hB' : atB l i = false := by simpa using hB
    refine (rtake_no i n₀ b size cap ao l w h hB').mono ?_
    rintro e w' ⟨rfl, rfl⟩
    refine ⟨by simp [hB', atI], ao, cap, ?_, Near.refl _ _, Keeps.refl _ _⟩
    rw [takeL_no hB']; exact h

end Go.Proofs.Ytlfhffljepganaa.Rg
