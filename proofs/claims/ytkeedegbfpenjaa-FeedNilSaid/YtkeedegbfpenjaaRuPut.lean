/- What Put of layer 4's windows returns and leaves of the memory. -/
import Derived.Test.YtkeedegbfpenjaaRuInsert
namespace Go.Proofs.Ytkeedegbfpenjaa.Ru
open Rg
open Go.RowKit
set_option linter.unusedVariables false

/-- how many of its own a frame has: 1 or 0. -/
def own1 (l : List (Int × Int)) (f : Int) : Nat := if hasF l f = true then 1 else 0
/-- a window's list with a frame's thing. -/
def putL (l : List (Int × Int)) (f x : Int) : List (Int × Int) := l.take (lo l f) ++ (f, x) :: l.drop (lo l f + own1 l f)
/-- what the loop asks of an element. -/
theorem elem_of {l : List (Int × Int)} {f : Int} (hr : Rising l) {k : Nat} {p : Int × Int} (hp : l[k]? = some p) : (k < lo l f → p.1 < f) ∧ (k = lo l f → f ≤ p.1) ∧ (lo l f < k → f < p.1) := by
  have h1 := lo_lt (f := f) hr k p hp
  refine ⟨h1.1, fun e => ?_, fun e => ?_⟩
  · have : ¬ p.1 < f := fun h => by have := h1.2 h; omega
    omega
  · have hk : k < l.length := (List.getElem?_eq_some_iff.1 hp).1
    have hq : l[lo l f]? = some (l[lo l f]'(by omega)) := List.getElem?_eq_getElem _
    have h5 := lo_lt (f := f) hr _ _ hq
    have h6 : (l[lo l f]'(by omega)).1 < p.1 := by
      have := List.pairwise_iff_getElem.1 hr (lo l f) k (by omega) hk e
      rw [(List.getElem?_eq_some_iff.1 hp).2] at this
      exact this
    have : ¬ (l[lo l f]'(by omega)).1 < f := fun h => by have := h5.2 h; omega
    omega

theorem insert_c (n₀ n cap i vb : Nat) (ao : Option Addr) (f x : Int) (xs : List Value) (w : World) (h : w.ownsRow n₀ 59 2 (.slice ao n cap) n xs) (h1 : ∀ u ∈ xs, u.oneCell' = true) (hv : NewAt w vb f x) (hvg : ∀ a, ao = some a → vb ≠ a.block) (hi : i ≤ n) (hn : n ≤ 4096) (hb : n₀ ≤ w.heap.size) :
    Calls Try.prog 29 #[.slice ao n cap, .int .i64 i, .slice (some ⟨vb, 0, none⟩) 1 1] w fun e w' => ∃ ao' cap', e = .returned (.slice ao' (n + 1) cap') ∧
      w'.ownsRow n₀ 59 2 (.slice ao' (n + 1) cap') (n + 1) (xs.take (i * 2) ++ [.int .i64 f, .int .u8 x] ++ xs.drop (i * 2)) ∧ w.grownBy w' (Value.ownBlock (.slice ao n cap)) ∧ Near ao ao' w.heap.size := by
  by_cases he : i = n
  · subst he
    have e1 : xs.take (i * 2) = xs := List.take_of_length_le (by rw [h.1]; omega)
    have e2 : xs.drop (i * 2) = [] := List.drop_eq_nil_of_le (by rw [h.1]; omega)
    rw [e1, e2, List.append_nil]
    exact insert_end n₀ i cap vb ao f x xs w h hv hn hb
  · rcases h.2 with ⟨h', rfl⟩ | ⟨g, cap', cur, h', _⟩
    · omega
    · cases h'
      by_cases hr : n + 1 ≤ cap
      · refine (insert_room n₀ g n cap i vb f x xs w h h1 hv (hvg _ rfl) (by omega) hr hn).mono ?_
        rintro e w' ⟨rfl, ho, hg⟩
        exact ⟨_, _, rfl, ho, hg, Near.refl _ _⟩
      · refine (insert_grow n₀ g n cap i vb f x xs w h h1 hv (by omega) (by omega) hn hb).mono ?_
        rintro e w' ⟨c', rfl, ho, hB⟩
        refine ⟨_, c', rfl, ho, ⟨hB.os, hB.tape, hB.output, hB.size, fun k hk _ => hB.block k hk⟩, ?_⟩
        rintro a' e
        cases e
        exact .inr (Nat.le_refl _)

theorem ins_keeps {w w1 : World} {n₀ t e b cap : Nat} {cs : List Value} {ao : Option Addr} {n : Nat} {xs : List Value} (h : Held w n₀ t e 2 b cs ao n cap xs) (hte : t ≠ e) (hg : w.grownBy w1 (Value.ownBlock (.slice ao n cap))) :
    Keeps (Foot b ao) w w1 ∧ w1.heap[b]? = w.heap[b]? := by
  refine ⟨(Keeps.refl _ w).grown hg ?_, hg.block b h.lt ?_⟩
  · intro k hk _
    cases ao with
    | none => simp [Value.ownBlock] at hk
    | some a => exact .inr ⟨a, rfl, by simpa [Value.ownBlock] using hk.symm⟩
  · intro e'
    cases ao with
    | none => simp [Value.ownBlock] at e'
    | some a => exact h.apart hte a rfl (by simpa [Value.ownBlock] using e'.symm)

theorem put_old (i x : Int) (n₀ b size cap : Nat) (first : Int) (ao : Option Addr) (l : List (Int × Int)) (w : World) (h : Win w n₀ 56 59 b size first ao cap l) (hi : i < first) :
    Calls Try.prog 18 #[.pointer (some ⟨b, 0, none⟩), .int .i64 i, .int .u8 x] w fun e w' => e = .returned (.int .i64 10) ∧ w = w' := by
  have c1 : w.cell? ⟨b, 1, none⟩ = some (.int .i64 first) := by simpa using h.cell 1
  go_enter Try.func18, Try.ntmps18
  go_wp2_with fail
  go_ret
  exact ⟨rfl, rfl⟩

theorem put_full (i x : Int) (n₀ b size cap : Nat) (first : Int) (ao : Option Addr) (l : List (Int × Int)) (w : World) (h : Win w n₀ 56 59 b size first ao cap l) (h0 : 0 ≤ first) (hi : first ≤ i) (h63 : i ≤ 9223372036854775807) (hf : (size : Int) ≤ i - first ∨ 1073741824 < i) :
    Calls Try.prog 18 #[.pointer (some ⟨b, 0, none⟩), .int .i64 i, .int .u8 x] w fun e w' => e = .returned (.int .i64 8) ∧ ∃ q, w' = w.drewN q := by
  have c0 : w.cell? ⟨b, 0, none⟩ = some (.int .i64 size) := by simpa using h.cell 0
  have c1 : w.cell? ⟨b, 1, none⟩ = some (.int .i64 first) := by simpa using h.cell 1
  have hw : IntKind.i64.wrap (i - first) = i - first := IntWalk.i64_in _ (by omega)
  by_cases h1 : (size : Int) ≤ i - first
  · have d1 : decide ((size : Int) ≤ i - first) = true := by simpa using h1
    go_enter Try.func18, Try.ntmps18
    go_wp2_with fail
    go_quiet (fail)
    go_wp2_with fail
    go_ret
    exact ⟨rfl, _, rfl⟩
  · have d1 : decide ((size : Int) ≤ i - first) = false := by simp; omega
    have d2 : decide (1073741824 < i) = true := by simp; omega
    go_enter Try.func18, Try.ntmps18
    go_wp2_with fail
    go_quiet (fail)
    go_wp2_with fail
    go_ret
    exact ⟨rfl, _, rfl⟩

theorem prs_set : ∀ (l : List (Int × Int)) (k : Nat) (p : Int × Int) (x : Int), l[k]? = some p → (prs l).set (k * 2 + 1) (.int .u8 x) = prs (l.take k ++ (p.1, x) :: l.drop (k + 1))
  | [], k, p, x, h => by simp at h
  | q :: l, 0, p, x, h => by
    simp at h
    subst h
    simp [prs_cons]
  | q :: l, k + 1, p, x, h => by
    have := prs_set l k p x (by simpa using h)
    rw [List.take_succ_cons, List.drop_succ_cons, List.cons_append, prs_cons, prs_cons, ← this, show (k + 1) * 2 + 1 = (k * 2 + 1) + 1 + 1 by omega, List.set_cons_succ, List.set_cons_succ]

theorem putL_yes {l : List (Int × Int)} {f x : Int} {p : Int × Int} (hp : l[lo l f]? = some p) (h : hasF l f = true) : putL l f x = l.take (lo l f) ++ (p.1, x) :: l.drop (lo l f + 1) := by
  have e : p.1 = f := by rw [hasF_some hp] at h; simpa using h
  unfold putL own1
  rw [if_pos h, e]
theorem putL_no {l : List (Int × Int)} {f x : Int} (h : hasF l f = false) : putL l f x = l.take (lo l f) ++ [(f, x)] ++ l.drop (lo l f) := by
  unfold putL own1
  rw [h]; simp

set_option maxHeartbeats 1000000 in
theorem put_yes (i x : Int) (n₀ b size cap : Nat) (first : Int) (ao : Option Addr) (l : List (Int × Int)) (w : World) (h : Win w n₀ 56 59 b size first ao cap l) (hr : Rising l) (hl : l.length ≤ 4096) (hn : n₀ ≤ w.heap.size)
    (h0 : 0 ≤ first) (hi1 : first ≤ i) (h63 : i ≤ 1073741824) (hf : i - first < size) (hh : hasF l i = true) :
    Calls Try.prog 18 #[.pointer (some ⟨b, 0, none⟩), .int .i64 i, .int .u8 x] w fun e w' => e = .returned (.int .i64 0) ∧
      ∃ ao' cap', Win w' n₀ 56 59 b size first ao' cap' (putL l i x) ∧ Near ao ao' w.heap.size ∧ Keeps (Foot b ao) w w' := by
  have c0 : w.cell? ⟨b, 0, none⟩ = some (.int .i64 size) := by simpa using h.cell 0
  have c1 : w.cell? ⟨b, 1, none⟩ = some (.int .i64 first) := by simpa using h.cell 1
  have hw : IntKind.i64.wrap (i - first) = i - first := IntWalk.i64_in _ (by omega)
  have d1 : decide ((size : Int) ≤ i - first) = false := by simp; omega
  have d2 : decide (1073741824 < i) = false := by simp; omega
  obtain ⟨p, hp⟩ : ∃ p, l[lo l i]? = some p := by
    cases hx : l[lo l i]? with
    | none => rw [hasF_none hx] at hh; cases hh
    | some p => exact ⟨p, rfl⟩
  rw [putL_yes hp hh]
  have hlt : lo l i < l.length := (List.getElem?_eq_some_iff.1 hp).1
  have HS := hid (prs_set l (lo l i) p x hp)
  have HH := hid hh
  obtain ⟨k, K⟩ : ∃ k, Hid (lo l i = k) := ⟨_, rfl⟩
  rw [K.out] at HS hp hlt ⊢
  clear hh
  go_enter Try.func18, Try.ntmps18
  go_wp2_with fail
  go_quiet (fail)
  go_wp2_with fail
  refine (place_c i n₀ b size cap first ao l _ (h.drewN nq) hr hl).mono ?_
  rintro e w1 ⟨rfl, hB⟩
  rw [K.out, HH.out]
  have h1 := (h.drewN nq).old hB
  have c2 : w1.cell? ⟨b, 2, none⟩ = some (.slice ao l.length cap) := by simpa using h1.cell 2
  obtain ⟨g, rfl, hgl, e3, e4⟩ := win_cell h1.row _ p hp
  have f4 : w1.frozen? ⟨g, k * 2 + 1, none⟩ = false := h1.row.frozenAt _
  obtain ⟨o1, o2⟩ := h1.row.stored (k * 2 + 1) (.int .u8 x)
  have O1 := hid o1
  have m3 : (k : Int) < (l.length : Int) := by omega
  clear hp o1 c0 c1
  go_wp2_with fail
  go_ret
  have hgb : g ≠ b := h1.apart (by decide) _ rfl
  have hBw : Below w.heap.size w w1 := ⟨hB.os, hB.tape, hB.output, hB.size, hB.block⟩
  refine ⟨rfl, _, cap, ⟨?_, h.ge, ?_⟩, Near.refl _ _, keepsOld hBw ((Keeps.refl _ w1).grown o2 (fun j e _ => .inr ⟨_, rfl, by simpa using e.symm⟩))⟩
  · have hlen : (l.take k ++ (p.1, x) :: l.drop (k + 1)).length = l.length := by simp; omega
    rw [hlen]
    exact (o2.block b h1.lt (by simpa using hgb.symm)).trans h1.block
  · have hlen : (l.take k ++ (p.1, x) :: l.drop (k + 1)).length = l.length := by simp; omega
    rw [hlen, ← HS.out]
    exact O1.out

set_option maxHeartbeats 1000000 in
theorem put_no (i x : Int) (n₀ b size cap : Nat) (first : Int) (ao : Option Addr) (l : List (Int × Int)) (w : World) (h : Win w n₀ 56 59 b size first ao cap l) (hr : Rising l) (hl : l.length ≤ 4096) (hn : n₀ ≤ w.heap.size)
    (h0 : 0 ≤ first) (hi1 : first ≤ i) (h63 : i ≤ 1073741824) (hf : i - first < size) (hh : hasF l i = false) :
    Calls Try.prog 18 #[.pointer (some ⟨b, 0, none⟩), .int .i64 i, .int .u8 x] w fun e w' => e = .returned (.int .i64 0) ∧
      ∃ ao' cap', Win w' n₀ 56 59 b size first ao' cap' (putL l i x) ∧ Near ao ao' w.heap.size ∧ Keeps (Foot b ao) w w' := by
  have c0 : w.cell? ⟨b, 0, none⟩ = some (.int .i64 size) := by simpa using h.cell 0
  have c1 : w.cell? ⟨b, 1, none⟩ = some (.int .i64 first) := by simpa using h.cell 1
  have hw : IntKind.i64.wrap (i - first) = i - first := IntWalk.i64_in _ (by omega)
  have d1 : decide ((size : Int) ≤ i - first) = false := by simp; omega
  have d2 : decide (1073741824 < i) = false := by simp; omega
  rw [putL_no hh]
  have hlo := lo_le l i
  have HH := hid hh
  obtain ⟨k, K⟩ : ∃ k, Hid (lo l i = k) := ⟨_, rfl⟩
  rw [K.out] at hlo ⊢
  clear hh
  go_enter Try.func18, Try.ntmps18
  go_wp2_with fail
  go_quiet (fail)
  go_wp2_with fail
  refine (place_c i n₀ b size cap first ao l _ (h.drewN nq) hr hl).mono ?_
  rintro e w1 ⟨rfl, hB⟩
  rw [K.out, HH.out]
  have h1 := (h.drewN nq).old hB
  have hBw : Below w.heap.size w w1 := ⟨hB.os, hB.tape, hB.output, hB.size, hB.block⟩
  have c2 : w1.cell? ⟨b, 2, none⟩ = some (.slice ao l.length cap) := by simpa using h1.cell 2
  have hB2 : Below w1.heap.size w1 (w1.alloc (.cells #[.int .i64 i, .int .u8 x] 59)) := (Below.refl _ w1).alloc (Nat.le_refl _) _
  have h2 := h1.old hB2
  have hi := hid (insert_c n₀ l.length cap k w1.heap.size ao i x (prs l) _ h2.row (prs_one l) (heap_alloc_new w1 _) (fun a ha e => by
    have := h1.footLt a.block (.inr ⟨a, ha, rfl⟩)
    omega) hlo hl (by have := hBw.size; have := hB2.size; omega))
  clear c0 c1
  go_wp2_with (go_at_call 29; ((with_reducible refine hi.out.mono ?_); rintro e w3 ⟨ao', cap', rfl, hown, hg, hnear⟩; have hk3 : Keeps (Foot b ao) (w1.alloc (.cells #[.int .i64 i, .int .u8 x] 59)) w3 ∧ w3.heap[b]? = (w1.alloc (.cells #[.int .i64 i, .int .u8 x] 59)).heap[b]? := ins_keeps h2 (by decide) hg; have c3 : w3.cell? ⟨b, 2, none⟩ = some (.slice ao l.length cap) := (World.cell?_of_block hk3.2).trans (by simpa using h2.cell 2); have f3 : w3.frozen? ⟨b, 2, none⟩ = false := (World.frozen?_of_block hk3.2).trans (h2.frozen 2)))
  go_ret
  obtain ⟨hh, hk2⟩ := h2.stored (by decide) hk3.1 hk3.2 hown
  refine ⟨rfl, ao', cap', ?_, ?_, keepsOld hBw (keepsOld hB2 hk2)⟩
  · have e1 : (l.take k ++ [(i, x)] ++ l.drop k).length = l.length + 1 := by simp; omega
    have e2 : prs (l.take k ++ [(i, x)] ++ l.drop k) = (prs l).take (k * 2) ++ [.int .i64 i, .int .u8 x] ++ (prs l).drop (k * 2) := by rw [prs_append, prs_append, prs_take, prs_drop]; rfl
    show Held _ _ _ _ _ _ _ _ _ _ _
    rw [e1, e2]
    exact hh
  · intro a' ha'
    rcases hnear a' ha' with h5 | h5
    · exact .inl h5
    · exact .inr (by have := hBw.size; have := hB2.size; omega)

theorem put_c (i x : Int) (n₀ b size cap : Nat) (first : Int) (ao : Option Addr) (l : List (Int × Int)) (w : World) (h : Win w n₀ 56 59 b size first ao cap l) (hr : Rising l) (hl : l.length ≤ 4096) (hn : n₀ ≤ w.heap.size)
    (h0 : 0 ≤ first) (hi1 : first ≤ i) (h63 : i ≤ 1073741824) (hf : i - first < size) :
    Calls Try.prog 18 #[.pointer (some ⟨b, 0, none⟩), .int .i64 i, .int .u8 x] w fun e w' => e = .returned (.int .i64 0) ∧
      ∃ ao' cap', Win w' n₀ 56 59 b size first ao' cap' (putL l i x) ∧ Near ao ao' w.heap.size ∧ Keeps (Foot b ao) w w' := by
  cases hh : hasF l i with
  | true => exact put_yes i x n₀ b size cap first ao l w h hr hl hn h0 hi1 h63 hf hh
  | false => exact put_no i x n₀ b size cap first ao l w h hr hl hn h0 hi1 h63 hf hh

theorem open_c (size : Nat) (first : Int) (n₀ : Nat) (hs : 1 ≤ size ∧ size ≤ 4096) (hf : 0 ≤ first ∧ first ≤ 1073741824) (w : World) (hn : n₀ ≤ w.heap.size) :
    Calls Try.prog 16 #[.int .i64 size, .int .i64 first] w fun e w' => e = .returned (.tuple #[.pointer (some ⟨w.heap.size, 0, none⟩), .int .i64 0]) ∧ Win w' n₀ 56 59 w.heap.size size first none 0 [] ∧ Below w.heap.size w w' := by
  have s := hid (size_yes size (by omega))
  have d1 : decide (first < 0) = false := by simp; omega
  have d2 : decide (1073741824 < first) = false := by simp; omega
  have hN : Win (w.alloc (.cells #[.int .i64 size, .int .i64 first, .slice none 0 0] 56)) n₀ 56 59 w.heap.size size first none 0 [] := Held.new w n₀ 56 59 2 [.int .i64 size, .int .i64 first] hn
  go_enter Try.func16, Try.ntmps16
  go_wp2_with (go_at_call 26; ((with_reducible refine (isSize_c _ _).mono ?_); rintro e w' ⟨rfl, rfl⟩; rw [s.out]))
  go_ret2
  exact ⟨rfl, hN, (Below.refl _ w).alloc (Nat.le_refl _) _⟩

end Go.Proofs.Ytkeedegbfpenjaa.Ru
