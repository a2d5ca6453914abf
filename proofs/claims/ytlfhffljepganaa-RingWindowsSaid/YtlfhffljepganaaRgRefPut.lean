/- What Put of the document's windows (promptbookref04) returns and leaves of the memory. -/
import Derived.Test.YtlfhffljepganaaRgRefWin
namespace Go.Proofs.Ytlfhffljepganaa.Rg
open Go.RowKit
set_option linter.unusedVariables false

/-- how many of its own a frame has: 1 or 0. -/
def own1 (l : List (Int × Int)) (f : Int) : Nat := if hasF l f = true then 1 else 0
/-- a window's list with a frame's thing. -/
def putL (l : List (Int × Int)) (f x : Int) : List (Int × Int) := l.take (lo l f) ++ (f, x) :: l.drop (lo l f + own1 l f)
/-- what has been made of the first k. -/
def outP (l : List (Int × Int)) (f x : Int) (k : Nat) : List (Int × Int) := if k ≤ lo l f then l.take k else l.take (lo l f) ++ (f, x) :: (l.take k).drop (lo l f + own1 l f)
theorem outP_len (l : List (Int × Int)) (f x : Int) (k : Nat) : (outP l f x k).length ≤ k + 1 := by
  unfold outP
  split
  · rw [List.length_take]; omega
  · rw [List.length_append, List.length_cons, List.length_take, List.length_drop, List.length_take]; omega
theorem outP_zero (l : List (Int × Int)) (f x : Int) : outP l f x 0 = [] := by simp [outP]
theorem take_next {l : List (Int × Int)} {k : Nat} {p : Int × Int} (hp : l[k]? = some p) : l.take (k + 1) = l.take k ++ [p] := by
  have hk : k < l.length := (List.getElem?_eq_some_iff.1 hp).1
  rw [List.take_succ_eq_append_getElem hk, (List.getElem?_eq_some_iff.1 hp).2]
theorem outP_low {l : List (Int × Int)} {f x : Int} {k : Nat} {p : Int × Int} (hp : l[k]? = some p) (h : k < lo l f) : outP l f x (k + 1) = outP l f x k ++ [p] := by
  unfold outP
  rw [if_pos (by omega), if_pos (by omega), take_next hp]
theorem outP_here {l : List (Int × Int)} {f x : Int} {p : Int × Int} (hp : l[lo l f]? = some p) : outP l f x (lo l f + 1) = outP l f x (lo l f) ++ (f, x) :: (if p.1 = f then [] else [p]) := by
  have hk : lo l f < l.length := (List.getElem?_eq_some_iff.1 hp).1
  unfold outP own1
  rw [if_neg (by omega), if_pos (Nat.le_refl _), take_next hp, hasF_some hp]
  by_cases e : p.1 = f
  · simp [e]; omega
  · have : (p.1 == f) = false := by simpa using e
    simp [e, this]
    rw [List.drop_append_of_le_length (by rw [List.length_take]; omega), List.drop_eq_nil_of_le (by rw [List.length_take]; omega)]
    rfl
theorem outP_high {l : List (Int × Int)} {f x : Int} {k : Nat} {p : Int × Int} (hp : l[k]? = some p) (h : lo l f < k) : outP l f x (k + 1) = outP l f x k ++ [p] := by
  have hk : k < l.length := (List.getElem?_eq_some_iff.1 hp).1
  have h1 : own1 l f ≤ 1 := by unfold own1; split <;> omega
  unfold outP
  rw [if_neg (by omega), if_neg (by omega), take_next hp, List.drop_append_of_le_length (by rw [List.length_take]; omega)]
  simp
theorem outP_all {l : List (Int × Int)} {f x : Int} (h : lo l f < l.length) : outP l f x l.length = putL l f x := by
  unfold outP putL
  rw [if_neg (by omega), List.take_length]
theorem outP_end {l : List (Int × Int)} {f x : Int} (h : ¬ lo l f < l.length) : outP l f x l.length ++ [(f, x)] = putL l f x := by
  have := lo_le l f
  unfold outP putL
  rw [if_pos (by omega), List.drop_eq_nil_of_le (by omega), List.take_length, List.take_of_length_le (by omega)]

/-- what the loop asks of an element. -/
theorem elem_of {l : List (Int × Int)} {f : Int} (hr : Rising l) {k : Nat} {p : Int × Int} (hp : l[k]? = some p) : (k < lo l f → p.1 < f) ∧ (k = lo l f → f ≤ p.1) ∧ (lo l f < k → f < p.1) := by
  have h1 := lo_lt (f := f) hr k p hp
  refine ⟨h1.1, fun e => ?_, fun e => ?_⟩
  · have : ¬ p.1 < f := fun h => by have := h1.2 h; omega
    omega
  · have hk : k < l.length := (List.getElem?_eq_some_iff.1 hp).1
    have hq : l[lo l f]? = some (l[lo l f]'(by omega)) := List.getElem?_eq_getElem _
    have h5 := lo_lt (f := f) hr _ _ hq
    have h6 : (l[lo l f]'(by omega)).1 < p.1 := by
      have := List.pairwise_iff_getElem.1 hr (lo l f) k (by omega) hk e
      rw [(List.getElem?_eq_some_iff.1 hp).2] at this
      exact this
    have : ¬ (l[lo l f]'(by omega)).1 < f := fun h => by have := h5.2 h; omega
    omega

theorem rput_old (i x : Int) (n₀ b size cap : Nat) (first : Int) (ao : Option Addr) (l : List (Int × Int)) (w : World) (h : Win w n₀ 51 56 b size first ao cap l) (hi : i < first) :
    Calls Try.prog 21 #[.pointer (some ⟨b, 0, none⟩), .int .i64 i, .int .i64 x] w fun e w' => e = .returned (.int .i64 10) ∧ w = w' := by
  have c1 : w.cell? ⟨b, 1, none⟩ = some (.int .i64 first) := by simpa using h.cell 1
  go_enter Try.func21, Try.ntmps21
  go_wp2_with fail
  go_ret
  exact ⟨rfl, rfl⟩

theorem rput_full (i x : Int) (n₀ b size cap : Nat) (first : Int) (ao : Option Addr) (l : List (Int × Int)) (w : World) (h : Win w n₀ 51 56 b size first ao cap l) (h0 : 0 ≤ first) (hi : first ≤ i) (h63 : i ≤ 9223372036854775807) (hf : (size : Int) ≤ i - first ∨ 1073741824 < i) :
    Calls Try.prog 21 #[.pointer (some ⟨b, 0, none⟩), .int .i64 i, .int .i64 x] w fun e w' => e = .returned (.int .i64 8) ∧ ∃ q, w' = w.drewN q := by
  have c0 : w.cell? ⟨b, 0, none⟩ = some (.int .i64 size) := by simpa using h.cell 0
  have c1 : w.cell? ⟨b, 1, none⟩ = some (.int .i64 first) := by simpa using h.cell 1
  have hw : IntKind.i64.wrap (i - first) = i - first := IntWalk.i64_in _ (by omega)
  by_cases h1 : (size : Int) ≤ i - first
  · have d1 : decide ((size : Int) ≤ i - first) = true := by simpa using h1
    go_enter Try.func21, Try.ntmps21
    go_wp2_with fail
    go_quiet (fail)
    go_wp2_with fail
    go_ret
    exact ⟨rfl, _, rfl⟩
  · have d1 : decide ((size : Int) ≤ i - first) = false := by simp; omega
    have d2 : decide (1073741824 < i) = true := by simp; omega
    go_enter Try.func21, Try.ntmps21
    go_wp2_with fail
    go_quiet (fail)
    go_wp2_with fail
    go_ret
    exact ⟨rfl, _, rfl⟩

set_option maxHeartbeats 2000000 in
theorem rput_c (i x : Int) (n₀ b size cap : Nat) (first : Int) (ao : Option Addr) (l : List (Int × Int)) (w : World) (h : Win w n₀ 51 56 b size first ao cap l) (hr : Rising l) (hl : l.length ≤ 4096) (hn : n₀ ≤ w.heap.size)
    (h0 : 0 ≤ first) (hi1 : first ≤ i) (h63 : i ≤ 1073741824) (hf : i - first < size) :
    Calls Try.prog 21 #[.pointer (some ⟨b, 0, none⟩), .int .i64 i, .int .i64 x] w fun e w' => e = .returned (.int .i64 0) ∧
      ∃ ao' cap', Win w' n₀ 51 56 b size first ao' cap' (putL l i x) ∧ Near ao ao' w.heap.size ∧ Keeps (Foot b ao) w w' := by
  have c0 : w.cell? ⟨b, 0, none⟩ = some (.int .i64 size) := by simpa using h.cell 0
  have c1 : w.cell? ⟨b, 1, none⟩ = some (.int .i64 first) := by simpa using h.cell 1
  have c2 : w.cell? ⟨b, 2, none⟩ = some (.slice ao l.length cap) := by simpa using h.cell 2
  have hb := h.lt
  have hw : IntKind.i64.wrap (i - first) = i - first := IntWalk.i64_in _ (by omega)
  have d1 : decide ((size : Int) ≤ i - first) = false := by simp; omega
  have d2 : decide (1073741824 < i) = false := by simp; omega
  have hcell := hid (fun j p hp => win_cell h.row j p hp)
  obtain ⟨N, HN⟩ : ∃ N, Hid (l.length = N) := ⟨_, rfl⟩
  obtain ⟨L, HL⟩ : ∃ L, Hid (lo l i = L) := ⟨_, rfl⟩
  have hN : N ≤ 4096 := by rw [← HN.out]; exact hl
  have hLN : L ≤ N := by have := lo_le l i; rw [HL.out, HN.out] at this; exact this
  rw [HN.out] at c2
  obtain ⟨i0, hi, hz0, hz1, hz2⟩ := info_parts info_one
  have HR := hid hr
  clear hr hl
  go_enter Try.func21, Try.ntmps21
  go_wp2_with fail
  go_quiet (fail)
  have hm0 := World.ownsRow_made (e := 56) (size := 2) (w.drewN nq) #[] 0 (Nat.le_refl _) (by decide) rfl
  have hB0 : Below w.heap.size w ((w.drewN nq).alloc (.cells #[] 56)) := (show Below w.heap.size w (w.drewN nq) from ⟨rfl, rfl, rfl, Nat.le_refl _, fun _ _ => rfl⟩).alloc (Nat.le_refl _) _
  clear c0 c1 d1 d2 hw
  go_wp2_with fail
  generalize (w.drewN nq).alloc (.cells #[] 56) = w0 at hm0 hB0 ⊢
  go_loopg [7, 8, 9] N (fun gk v t k wr => ∃ j : Nat, gk + j = N ∧ k = .int .i64 j ∧ t = .bool (decide (L < j)) ∧ wr.ownsRow w.heap.size 56 2 v (outP l i x j).length (prs (outP l i x j)) ∧ Below w.heap.size w wr)
  case atStart => exact ⟨0, by omega, rfl, by simp, by rw [outP_zero]; exact hm0, hB0⟩
  case round =>
    obtain ⟨k, hk, rfl, rfl, hrow, hB⟩ := hrel
    have hc2 := (hB.cell (p := ⟨b, 2, none⟩) hb).trans c2
    have hkl := outP_len l i x k
    clear hm0 hB0
    by_cases hlt : k < N
    · obtain ⟨p, hp⟩ : ∃ p, l[k]? = some p := ⟨l[k]'(by rw [HN.out]; omega), List.getElem?_eq_getElem _⟩
      obtain ⟨g, rfl, hgl, e3, e4⟩ := hcell.out k p hp
      replace e3 := (hB.cell (p := ⟨g, k * 2, none⟩) hgl).trans e3
      replace e4 := (hB.cell (p := ⟨g, k * 2 + 1, none⟩) hgl).trans e4
      have d0 : decide (k < N) = true := by rw [decide_eq_true_iff]; exact hlt
      have m3 : (k : Int) < (N : Int) := by omega
      obtain ⟨el1, el2, el3⟩ := elem_of (f := i) HR.out hp
      rw [HL.out] at el1 el2 el3
      rcases Nat.lt_trichotomy k L with hkL | hkL | hkL
      · have HK := hid (outP_low (x := x) hp (by rw [HL.out]; exact hkL))
        have f1 := el1 hkL
        have d3 : decide (L < k) = false := by rw [decide_eq_false_iff_not]; omega
        have d4 : decide (i ≤ p.1) = false := by rw [decide_eq_false_iff_not]; omega
        have d5 : (p.1 != i) = true := by rw [bne_iff_ne]; omega
        clear hp el1 el2 el3
        go_wp2_with (at_builtin; refine wpList_append_own_at _ rfl (.tmp 71) (.tmp 79) 49 rfl w.heap.size 56 i0 (.agg #[.int .i64 0, .int .i64 0]) 2 16 Try.underlying49 hi hz0 hz1 hz2 rfl (by decide) _ _ _ rfl (hrow.alloc _) ⟨wr.heap.size, 0, none⟩ 1 1 [.int .i64 p.1, .int .i64 p.2] rfl rfl (cell_pair_new _ _ _ _) (by simp [Value.oneCell']) (by unfold maxLen; omega) (by omega) (by have := hB.size; simp; omega) ?_; intro v1 w1 hown1 hg1 _ _)
        go_roundg (gk - 1)
        case measure => omega
        case rel =>
          refine ⟨k + 1, by omega, by go_num, by rw [decide_eq_false_iff_not.2 (show ¬ L < k + 1 by omega)], ?_, (hB.alloc hB.size _).grown hg1 (by have := hB.size; simp; omega) (fun j e => (hrow.lt j e).1)⟩
          rw [HK.out, prs_append, List.length_append, List.length_singleton]
          exact hown1
      · have HK := hid (outP_here (x := x) (by rw [HL.out, ← hkL]; exact hp))
        have f1 := el2 hkL
        have d3 : decide (L < k) = false := by rw [decide_eq_false_iff_not]; omega
        have d4 : decide (i ≤ p.1) = true := by rw [decide_eq_true_iff]; exact f1
        clear hp el1 el2 el3
        have HkL := hid hkL
        have hLk1 : L < k + 1 := by omega
        clear hkL
        by_cases e : p.1 = i
        · have d5 : (p.1 != i) = false := by simpa using e
          rw [if_pos e] at HK
          have E := hid e
          clear e
          go_wp2_with (at_builtin; refine wpList_append_own_at _ rfl (.tmp 55) (.tmp 59) 49 rfl w.heap.size 56 i0 (.agg #[.int .i64 0, .int .i64 0]) 2 16 Try.underlying49 hi hz0 hz1 hz2 rfl (by decide) _ _ _ rfl (hrow.alloc _) ⟨wr.heap.size, 0, none⟩ 1 1 [.int .i64 i, .int .i64 x] rfl rfl (cell_pair_new _ _ _ _) (by simp [Value.oneCell']) (by unfold maxLen; omega) (by omega) (by have := hB.size; simp; omega) ?_; intro v1 w1 hown1 hg1 _ _; have hB1 := (hB.alloc hB.size (.cells #[.int .i64 i, .int .i64 x] 56)).grown hg1 (by have := hB.size; simp; omega) (fun j e => (hrow.lt j e).1); have k2 := (hB1.cell (p := ⟨b, 2, none⟩) hb).trans c2; have k3 := (hB1.cell (p := ⟨g, k * 2, none⟩) hgl).trans ((hB.cell (p := ⟨g, k * 2, none⟩) hgl).symm.trans e3); have k4 := (hB1.cell (p := ⟨g, k * 2 + 1, none⟩) hgl).trans ((hB.cell (p := ⟨g, k * 2 + 1, none⟩) hgl).symm.trans e4))
          go_roundg (gk - 1)
          case measure => omega
          case rel =>
            refine ⟨k + 1, by omega, by go_num, by rw [decide_eq_true_iff.2 hLk1], ?_, (hB.alloc hB.size _).grown hg1 (by have := hB.size; simp; omega) (fun j e => (hrow.lt j e).1)⟩
            have hkL' : lo l i = k := HL.out.trans HkL.out.symm
            rw [hkL'] at HK
            rw [HK.out, prs_append, List.length_append]
            exact hown1
        · have d5 : (p.1 != i) = true := by rw [bne_iff_ne]; exact e
          rw [if_neg e] at HK
          go_wp2_with (first
            | (at_builtin; refine wpList_append_own_at _ rfl (.tmp 55) (.tmp 59) 49 rfl w.heap.size 56 i0 (.agg #[.int .i64 0, .int .i64 0]) 2 16 Try.underlying49 hi hz0 hz1 hz2 rfl (by decide) _ _ _ rfl (hrow.alloc _) ⟨wr.heap.size, 0, none⟩ 1 1 [.int .i64 i, .int .i64 x] rfl rfl (cell_pair_new _ _ _ _) (by simp [Value.oneCell']) (by unfold maxLen; omega) (by omega) (by have := hB.size; simp; omega) ?_; intro v1 w1 hown1 hg1 _ _; have hB1 := (hB.alloc hB.size (.cells #[.int .i64 i, .int .i64 x] 56)).grown hg1 (by have := hB.size; simp; omega) (fun j e => (hrow.lt j e).1); have k2 := (hB1.cell (p := ⟨b, 2, none⟩) hb).trans c2; have k3 := (hB1.cell (p := ⟨g, k * 2, none⟩) hgl).trans ((hB.cell (p := ⟨g, k * 2, none⟩) hgl).symm.trans e3); have k4 := (hB1.cell (p := ⟨g, k * 2 + 1, none⟩) hgl).trans ((hB.cell (p := ⟨g, k * 2 + 1, none⟩) hgl).symm.trans e4))
            | (at_builtin; refine wpList_append_own_at _ rfl (.tmp 71) (.tmp 79) 49 rfl w.heap.size 56 i0 (.agg #[.int .i64 0, .int .i64 0]) 2 16 Try.underlying49 hi hz0 hz1 hz2 rfl (by decide) _ _ _ rfl (hown1.alloc _) ⟨w1.heap.size, 0, none⟩ 1 1 [.int .i64 p.1, .int .i64 p.2] rfl rfl (cell_pair_new _ _ _ _) (by simp [Value.oneCell']) (by unfold maxLen; omega) (by omega) (by have := hB1.size; simp; omega) ?_; intro v2 w2 hown2 hg2 _ _))
          go_roundg (gk - 1)
          case measure => omega
          case rel =>
            refine ⟨k + 1, by omega, by go_num, by rw [decide_eq_true_iff.2 hLk1], ?_, (hB1.alloc hB1.size _).grown hg2 (by have := hB1.size; simp; omega) (fun j e => (hown1.lt j e).1)⟩
            have hkL' : lo l i = k := HL.out.trans HkL.out.symm
            rw [hkL'] at HK
            rw [HK.out, show outP l i x k ++ (i, x) :: [p] = (outP l i x k ++ [(i, x)]) ++ [p] by simp, prs_append, prs_append, List.length_append, List.length_append]
            exact hown2
      · have HK := hid (outP_high (x := x) hp (by rw [HL.out]; exact hkL))
        have f1 := el3 hkL
        have d3 : decide (L < k) = true := by rw [decide_eq_true_iff]; omega
        have d5 : (p.1 != i) = true := by rw [bne_iff_ne]; omega
        clear hp el1 el2 el3
        go_wp2_with (at_builtin; refine wpList_append_own_at _ rfl (.tmp 71) (.tmp 79) 49 rfl w.heap.size 56 i0 (.agg #[.int .i64 0, .int .i64 0]) 2 16 Try.underlying49 hi hz0 hz1 hz2 rfl (by decide) _ _ _ rfl (hrow.alloc _) ⟨wr.heap.size, 0, none⟩ 1 1 [.int .i64 p.1, .int .i64 p.2] rfl rfl (cell_pair_new _ _ _ _) (by simp [Value.oneCell']) (by unfold maxLen; omega) (by omega) (by have := hB.size; simp; omega) ?_; intro v1 w1 hown1 hg1 _ _)
        go_roundg (gk - 1)
        case measure => omega
        case rel =>
          refine ⟨k + 1, by omega, by go_num, by rw [decide_eq_true_iff.2 (show L < k + 1 by omega)], ?_, (hB.alloc hB.size _).grown hg1 (by have := hB.size; simp; omega) (fun j e => (hrow.lt j e).1)⟩
          rw [HK.out, prs_append, List.length_append, List.length_singleton]
          exact hown1
    · have d0 : decide (k < N) = false := by rw [decide_eq_false_iff_not]; exact hlt
      obtain rfl : k = N := by omega
      by_cases hLk : L < k
      · have d3 : decide (L < k) = true := by rw [decide_eq_true_iff]; exact hLk
        have e1 : outP l i x k = putL l i x := by rw [← HN.out]; exact outP_all (by rw [HL.out, HN.out]; exact hLk)
        rw [e1] at hrow
        obtain ⟨hk1, hblk, ao', cap', rfl, hnear, hown⟩ := fresh_step h hB hrow hn
        have f2 : wr.frozen? ⟨b, 2, none⟩ = false := (World.frozen?_of_block hblk).trans (h.frozen 2)
        clear e1 hkl
        go_wp2_with fail
        go_ret
        obtain ⟨hh, hk2⟩ := h.stored (by decide) hk1 hblk hown
        exact ⟨rfl, ao', cap', hh, hnear, hk2⟩
      · have d3 : decide (L < k) = false := by rw [decide_eq_false_iff_not]; exact hLk
        have e1 : Hid (outP l i x k ++ [(i, x)] = putL l i x) := by show _ = _; rw [← HN.out]; exact outP_end (by rw [HL.out, HN.out]; exact hLk)
        go_wp2_with (at_builtin; refine wpList_append_own_at _ rfl (.tmp 83) (.tmp 87) 49 rfl w.heap.size 56 i0 (.agg #[.int .i64 0, .int .i64 0]) 2 16 Try.underlying49 hi hz0 hz1 hz2 rfl (by decide) _ _ _ rfl (hrow.alloc _) ⟨wr.heap.size, 0, none⟩ 1 1 [.int .i64 i, .int .i64 x] rfl rfl (cell_pair_new _ _ _ _) (by simp [Value.oneCell']) (by unfold maxLen; omega) (by omega) (by have := hB.size; simp; omega) ?_; intro v1 w1 hown1 hg1 _ _; have hB1 := (hB.alloc hB.size (.cells #[.int .i64 i, .int .i64 x] 56)).grown hg1 (by have := hB.size; simp; omega) (fun j e => (hrow.lt j e).1); obtain ⟨hk1, hblk, ao', cap', rfl, hnear, hown⟩ := fresh_step h hB1 hown1 hn; have k2 := (hB1.cell (p := ⟨b, 2, none⟩) hb).trans c2; have f2 : w1.frozen? ⟨b, 2, none⟩ = false := (World.frozen?_of_block hblk).trans (h.frozen 2))
        go_ret
        obtain ⟨hh, hk2⟩ := h.stored (by decide) hk1 hblk hown
        refine ⟨rfl, ao', cap', ?_, hnear, hk2⟩
        show Held _ _ _ _ _ _ _ _ _ _ _
        rw [← e1.out, prs_append, List.length_append]
        exact hh

end Go.Proofs.Ytlfhffljepganaa.Rg
