/- What the document's windows (promptbookref04) return and leave of the memory: Get, Keep. -/
import Derived.Test.YtlfhffljepganaaRgMove
namespace Go.Proofs.Ytlfhffljepganaa.Rg
open Go.RowKit
set_option linter.unusedVariables false

theorem hit {l : List (Int × Int)} {f : Int} (hr : Rising l) {k : Nat} {p : Int × Int} (hp : l[k]? = some p) (hf : p.1 = f) : hasF l f = true ∧ thingI l f = p.2 := by
  have h1 : lo l f = k := by
    have h2 := lo_lt (f := f) hr k p hp
    have h3 : ¬ k < lo l f := fun h => by have := h2.1 h; omega
    rcases Nat.lt_or_ge (lo l f) k with h4 | h4
    · have hk : k < l.length := (List.getElem?_eq_some_iff.1 hp).1
      have hq : l[lo l f]? = some (l[lo l f]'(by omega)) := List.getElem?_eq_getElem _
      have h5 := lo_lt (f := f) hr _ _ hq
      have h6 : (l[lo l f]'(by omega)).1 < p.1 := by
        have := List.pairwise_iff_getElem.1 hr (lo l f) k (by omega) hk h4
        rw [(List.getElem?_eq_some_iff.1 hp).2] at this
        exact this
      have := h5.2 (by omega)
      omega
    · omega
  have h2 : l[lo l f]? = some p := by rw [h1]; exact hp
  exact ⟨by rw [hasF_some h2]; simpa using hf, by simp [thingI, h2, hf]⟩
theorem miss {l : List (Int × Int)} {f : Int} (h : ∀ (j : Nat) (p : Int × Int), l[j]? = some p → p.1 ≠ f) : hasF l f = false ∧ thingI l f = 0 := by
  cases hx : l[lo l f]? with
  | none => exact ⟨hasF_none hx, by simp [thingI, hx]⟩
  | some p =>
    have := h _ p hx
    exact ⟨by rw [hasF_some hx]; simpa using this, by simp [thingI, hx, this]⟩

theorem rget_c (i : Int) (n₀ b size cap : Nat) (first : Int) (ao : Option Addr) (l : List (Int × Int)) (w : World) (h : Win w n₀ 51 56 b size first ao cap l) (hr : Rising l) (hl : l.length ≤ 4096) :
    Calls Try.prog 26 #[.pointer (some ⟨b, 0, none⟩), .int .i64 i] w fun e w' => e = .returned (.tuple #[.int .i64 (thingI l i), .bool (hasF l i)]) ∧ w = w' := by
  have c2 : w.cell? ⟨b, 2, none⟩ = some (.slice ao l.length cap) := by simpa using h.cell 2
  have hcell := hid (fun j p hp => win_cell h.row j p hp)
  obtain ⟨N, HN⟩ : ∃ N, Hid (l.length = N) := ⟨_, rfl⟩
  have hN : N ≤ 4096 := by rw [← HN.out]; exact hl
  rw [HN.out] at c2
  have HR := hid hr
  clear h hr hl
  go_enter Try.func26, Try.ntmps26
  go_wp2_with fail
  go_loop [6] (fun a => ∃ k : Nat, k ≤ N ∧ a = .int .i64 k ∧ Hid (∀ (j : Nat) (p : Int × Int), j < k → l[j]? = some p → p.1 ≠ i)) (fun a => N - (intOf a).toNat)
  case atStart => exact ⟨0, Nat.zero_le _, rfl, fun j p hj => by omega⟩
  case round =>
    obtain ⟨k, hk, rfl, hne⟩ := hrel
    by_cases hlt : k < N
    · obtain ⟨p, hp⟩ : ∃ p, l[k]? = some p := ⟨l[k]'(by rw [HN.out]; omega), List.getElem?_eq_getElem _⟩
      obtain ⟨g, rfl, _, e3, e4⟩ := hcell.out k p hp
      have HP := hid hp
      have d0 : decide (k < N) = true := by rw [decide_eq_true_iff]; exact hlt
      have m3 : (k : Int) < (N : Int) := by omega
      clear hp
      by_cases hf : p.1 = i
      · have d1 : (p.1 == i) = true := by simpa using hf
        have hh := hit HR.out HP.out hf
        have H1 := hid hh.1
        have H2 := hid hh.2
        clear hh hf
        go_wp2_with fail
        go_ret2
        exact ⟨by rw [H1.out, H2.out]; rfl, rfl⟩
      · have d1 : (p.1 == i) = false := by simpa using hf
        have hf' := hid hf
        clear hf
        go_wp2_with fail
        go_round
        case rel =>
          refine ⟨k + 1, by omega, by go_num, fun j q hj hq => ?_⟩
          rcases Nat.lt_or_ge j k with h1 | h1
          · exact hne.out j q h1 hq
          · obtain rfl : j = k := by omega
            rw [HP.out] at hq; cases hq; exact hf'.out
        case measure => simp [intOf]; omega
    · have d0 : decide (k < N) = false := by rw [decide_eq_false_iff_not]; exact hlt
      have hm := miss (l := l) (f := i) (fun j p hp => hne.out j p (by have := (List.getElem?_eq_some_iff.1 hp).1; rw [HN.out] at this; omega) hp)
      have H1 := hid hm.1
      have H2 := hid hm.2
      clear hm
      go_wp2_with fail
      go_ret2
      exact ⟨by rw [H1.out, H2.out]; rfl, rfl⟩

theorem info_one : (Try.prog.info? 56).map (fun i => (i.zero, i.size, i.bytes)) = some (some (.agg #[.int .i64 0, .int .i64 0]), 2, 16) := by kernel_rfl

theorem cell_pair_new (w : World) (x y : Value) (t : TypeId) : ∀ j u, [x, y][j]? = some u → (w.alloc (.cells #[x, y] t)).cell? ((⟨w.heap.size, 0, none⟩ : Addr).add j) = some u := by
  intro j u hj
  match j, hj with
  | 0, hj =>
    simp at hj
    subst hj
    simp [Addr.add]
  | 1, hj =>
    simp at hj
    subst hj
    simp [Addr.add]

/-- the things from a frame on, and ahead of another one. -/
def keepL (a c : Int) (l : List (Int × Int)) : List (Int × Int) := l.filter fun p => decide (a ≤ p.1) && decide (p.1 < c)
theorem keepL_yes {a c : Int} {l : List (Int × Int)} {k : Nat} {p : Int × Int} (hp : l[k]? = some p) (h : a ≤ p.1 ∧ p.1 < c) : keepL a c (l.take (k + 1)) = keepL a c (l.take k) ++ [p] := by
  have hk : k < l.length := (List.getElem?_eq_some_iff.1 hp).1
  rw [List.take_succ_eq_append_getElem hk, (List.getElem?_eq_some_iff.1 hp).2]
  simp [keepL, List.filter_append, h.1, h.2]
theorem keepL_no {a c : Int} {l : List (Int × Int)} {k : Nat} {p : Int × Int} (hp : l[k]? = some p) (h : ¬ (a ≤ p.1 ∧ p.1 < c)) : keepL a c (l.take (k + 1)) = keepL a c (l.take k) := by
  have hk : k < l.length := (List.getElem?_eq_some_iff.1 hp).1
  rw [List.take_succ_eq_append_getElem hk, (List.getElem?_eq_some_iff.1 hp).2]
  have : (decide (a ≤ p.1) && decide (p.1 < c)) = false := by
    by_cases h1 : a ≤ p.1
    · have : ¬ p.1 < c := fun h2 => h ⟨h1, h2⟩
      simp [this]
    · simp [h1]
  simp [keepL, List.filter_append, this]
theorem keepL_len (a c : Int) (l : List (Int × Int)) : (keepL a c l).length ≤ l.length := List.length_filter_le _ _

set_option maxHeartbeats 1000000 in
theorem rkeep_c (a c : Int) (n₀ b size cap : Nat) (first : Int) (ao : Option Addr) (l : List (Int × Int)) (w : World) (h : Win w n₀ 51 56 b size first ao cap l) (hl : l.length ≤ 4096) (hn : n₀ ≤ w.heap.size) :
    Calls Try.prog 22 #[.pointer (some ⟨b, 0, none⟩), .int .i64 a, .int .i64 c] w fun e w' => e = .returned (.int .i64 ((l.length : Int) - ((keepL a c l).length : Int))) ∧
      ∃ ao' cap', Win w' n₀ 51 56 b size first ao' cap' (keepL a c l) ∧ Near ao ao' w.heap.size ∧ Keeps (Foot b ao) w w' := by
  have c2 : w.cell? ⟨b, 2, none⟩ = some (.slice ao l.length cap) := by simpa using h.cell 2
  have hb := h.lt
  have hcell := hid (fun j p hp => win_cell h.row j p hp)
  obtain ⟨N, HN⟩ : ∃ N, Hid (l.length = N) := ⟨_, rfl⟩
  have hN : N ≤ 4096 := by rw [← HN.out]; exact hl
  rw [HN.out] at c2
  rw [HN.out]
  obtain ⟨i0, hi, hz0, hz1, hz2⟩ := info_parts info_one
  have hm0 := World.ownsRow_made (e := 56) (size := 2) w #[] 0 (Nat.le_refl _) (by decide) rfl
  have hB0 : Below w.heap.size w (w.alloc (.cells #[] 56)) := (Below.refl _ w).alloc (Nat.le_refl _) _
  go_enter Try.func22, Try.ntmps22
  go_wp2_with fail
  generalize w.alloc (.cells #[] 56) = w0 at hm0 hB0 ⊢
  go_loopg [7, 8] N (fun gk v k wr => ∃ i : Nat, gk + i = N ∧ k = .int .i64 i ∧ wr.ownsRow w.heap.size 56 2 v (keepL a c (l.take i)).length (prs (keepL a c (l.take i))) ∧ Below w.heap.size w wr)
  case atStart => exact ⟨0, by omega, rfl, hm0, hB0⟩
  case round =>
    obtain ⟨k, hk, rfl, hrow, hB⟩ := hrel
    have hc2 := (hB.cell (p := ⟨b, 2, none⟩) hb).trans c2
    have hkl := keepL_len a c (l.take k)
    have hkt : (l.take k).length ≤ k := List.length_take_le _ _
    clear hm0 hB0
    by_cases hlt : k < N
    · obtain ⟨p, hp⟩ : ∃ p, l[k]? = some p := ⟨l[k]'(by rw [HN.out]; omega), List.getElem?_eq_getElem _⟩
      obtain ⟨g, rfl, hgl, e3, e4⟩ := hcell.out k p hp
      replace e3 := (hB.cell (p := ⟨g, k * 2, none⟩) hgl).trans e3
      replace e4 := (hB.cell (p := ⟨g, k * 2 + 1, none⟩) hgl).trans e4
      have d0 : decide (k < N) = true := by rw [decide_eq_true_iff]; exact hlt
      have m3 : (k : Int) < (N : Int) := by omega
      by_cases hf : a ≤ p.1 ∧ p.1 < c
      · have HK := hid (keepL_yes (a := a) (c := c) hp hf)
        obtain ⟨f1, f2⟩ := hf
        have d1 : decide (a ≤ p.1) = true := by simpa using f1
        have d2 : decide (p.1 < c) = true := by simpa using f2
        clear hp f1 f2
        go_wp2_with (at_builtin; refine wpList_append_own_at _ rfl _ _ 49 rfl w.heap.size 56 i0 (.agg #[.int .i64 0, .int .i64 0]) 2 16 Try.underlying49 hi hz0 hz1 hz2 rfl (by decide) _ _ _ rfl (hrow.alloc _) ⟨wr.heap.size, 0, none⟩ 1 1 [.int .i64 p.1, .int .i64 p.2] rfl rfl (cell_pair_new _ _ _ _) (by simp [Value.oneCell']) (by unfold maxLen; omega) (by omega) (by have := hB.size; simp; omega) ?_; intro v1 w1 hown1 hg1 _ hat1)
        go_roundg (gk - 1)
        case measure => omega
        case rel =>
          refine ⟨k + 1, by omega, by go_num, ?_, (hB.alloc hB.size _).grown hg1 (by have := hB.size; simp; omega) (fun i e => (hrow.lt i e).1)⟩
          rw [HK.out, prs_append, List.length_append, List.length_singleton]
          exact hown1
      · have HK := hid (keepL_no (a := a) (c := c) hp hf)
        clear hp
        have hd : decide (a ≤ p.1) = false ∨ (decide (a ≤ p.1) = true ∧ decide (p.1 < c) = false) := by
          by_cases f1 : a ≤ p.1
          · right; simp; omega
          · left; simp; omega
        clear hf
        rcases hd with d1 | ⟨d1, d2⟩
        all_goals
          go_wp2_with fail
          go_roundg (gk - 1)
          case measure => omega
          case rel => exact ⟨k + 1, by omega, by go_num, by rw [HK.out]; exact hrow, hB⟩
    · have d0 : decide (k < N) = false := by rw [decide_eq_false_iff_not]; exact hlt
      have hall : l.take k = l := List.take_of_length_le (by rw [HN.out]; omega)
      rw [hall] at hrow hkl
      have hq := keepL_len a c l
      obtain ⟨hk1, hblk, ao', cap', rfl, hnear, hown⟩ := fresh_step h hB hrow hn
      have f2 : wr.frozen? ⟨b, 2, none⟩ = false := (World.frozen?_of_block hblk).trans (h.frozen 2)
      have hNk : (keepL a c l).length ≤ N := by rw [← HN.out]; exact hq
      clear hall
      go_wp2_with fail
      go_ret
      obtain ⟨hh, hk2⟩ := h.stored (by decide) hk1 hblk hown
      exact ⟨rfl, ao', cap', hh, hnear, hk2⟩

end Go.Proofs.Ytlfhffljepganaa.Rg
