/- Plain facts on the list of a window of uint8: what is put, moved past and cut keeps it rising, within its window, and no longer than its size. -/
import Derived.Test.YtkeedegbfpenjaaRuPut
namespace Go.Proofs.Ytkeedegbfpenjaa.Ru
open Rg
open Go.RowKit
set_option linter.unusedVariables false

theorem filter_none {l : List (Int × Int)} {q : Int × Int → Bool} (h : ∀ p ∈ l, q p = false) : l.filter q = [] := by
  apply List.filter_eq_nil_iff.2
  intro p hp
  rw [h p hp]; simp
theorem filter_all {l : List (Int × Int)} {q : Int × Int → Bool} (h : ∀ p ∈ l, q p = true) : l.filter q = l := List.filter_eq_self.2 h

theorem take_lo : ∀ {l : List (Int × Int)} {f : Int}, Rising l → l.take (lo l f) = l.filter fun p => decide (p.1 < f)
  | [], _, _ => rfl
  | q :: l, f, hr => by
    obtain ⟨h1, h2⟩ := List.pairwise_cons.1 hr
    by_cases hq : q.1 < f
    · rw [lo_cons_yes hq, List.take_succ_cons, take_lo h2, List.filter_cons, if_pos (by simpa using hq)]
    · rw [lo_cons_no hq, List.take_zero, List.filter_cons, if_neg (by simpa using hq), filter_none]
      intro p hp
      have := h1 p hp
      rw [decide_eq_false_iff_not]; omega
theorem drop_lo : ∀ {l : List (Int × Int)} {f : Int}, Rising l → l.drop (lo l f) = l.filter fun p => decide (f ≤ p.1)
  | [], _, _ => rfl
  | q :: l, f, hr => by
    obtain ⟨h1, h2⟩ := List.pairwise_cons.1 hr
    by_cases hq : q.1 < f
    · rw [lo_cons_yes hq, List.drop_succ_cons, drop_lo h2, List.filter_cons, if_neg (by simp; omega)]
    · rw [lo_cons_no hq, List.drop_zero, filter_all]
      intro p hp
      rcases List.mem_cons.1 hp with rfl | hp
      · rw [decide_eq_true_iff]; omega
      · have := h1 p hp
        rw [decide_eq_true_iff]; omega

/-- a window's list: rising, within so many frames from the first one on, no frame above the last one. -/
structure Good (size : Nat) (first : Int) (l : List (Int × Int)) : Prop where
  up : Rising l
  ge : 0 ≤ first
  mem : ∀ p ∈ l, first ≤ p.1 ∧ p.1 < first + size ∧ p.1 ≤ 1073741824

theorem Good.nil (size : Nat) (first : Int) (h : 0 ≤ first) : Good size first [] := ⟨List.Pairwise.nil, h, fun p hp => by cases hp⟩

theorem rising_len : ∀ {l : List (Int × Int)} {a : Int} {n : Nat}, Rising l → (∀ p ∈ l, a ≤ p.1 ∧ p.1 < a + n) → l.length ≤ n
  | [], _, _, _, _ => Nat.zero_le _
  | q :: l, a, n, hr, h => by
    obtain ⟨h1, h2⟩ := List.pairwise_cons.1 hr
    have hq := h q (by simp)
    obtain ⟨m, rfl⟩ : ∃ m, n = m + 1 := ⟨n - 1, by omega⟩
    have := rising_len (a := a + 1) (n := m) h2 (fun p hp => by
      have e1 := h1 p hp
      have e2 := h p (by simp [hp])
      omega)
    simp; omega
theorem Good.len {size : Nat} {first : Int} {l : List (Int × Int)} (h : Good size first l) : l.length ≤ size := rising_len h.up (fun p hp => ⟨(h.mem p hp).1, (h.mem p hp).2.1⟩)

theorem Good.sub {size : Nat} {first first' : Int} {l k : List (Int × Int)} (h : Good size first l) (hs : k.Sublist l) (hf : first ≤ first') (hk : ∀ p ∈ k, first' ≤ p.1) : Good size first' k := by
  refine ⟨List.Pairwise.sublist hs h.up, Int.le_trans h.ge hf, fun p hp => ?_⟩
  have := h.mem p (hs.subset hp)
  exact ⟨hk p hp, by omega, this.2.2⟩

theorem Good.moved {size : Nat} {first i : Int} {l : List (Int × Int)} (h : Good size first l) (hi : first ≤ i) : Good size i (l.drop (lo l i)) :=
  h.sub (List.drop_sublist _ _) hi (fun p hp => by rw [drop_lo h.up] at hp; simpa using (List.mem_filter.1 hp).2)
theorem Good.cut {size : Nat} {first i : Int} {l : List (Int × Int)} (h : Good size first l) : Good size first (l.take (lo l i)) :=
  h.sub (List.take_sublist _ _) (Int.le_refl _) (fun p hp => (h.mem p (List.mem_of_mem_take hp)).1)

theorem put_behind {l : List (Int × Int)} {f : Int} (hr : Rising l) : ∀ p ∈ l.drop (lo l f + own1 l f), f < p.1 := by
  intro p hp
  obtain ⟨j, hj⟩ := List.mem_iff_getElem?.1 hp
  rw [List.getElem?_drop] at hj
  have he := elem_of (f := f) hr hj
  rcases Nat.lt_or_ge (lo l f) (lo l f + own1 l f + j) with h | h
  · exact he.2.2 h
  · have hj0 : lo l f + own1 l f + j = lo l f := by omega
    have h2 := he.2.1 hj0
    have ho : own1 l f = 0 := by omega
    rw [hj0] at hj
    have : hasF l f = false := by
      cases hh : hasF l f with
      | false => rfl
      | true => simp [own1, hh] at ho
    rw [hasF_some hj] at this
    have : p.1 ≠ f := by simpa using this
    omega
theorem Good.put {size : Nat} {first f x : Int} {l : List (Int × Int)} (h : Good size first l) (h1 : first ≤ f) (h2 : f - first < size) (h3 : f ≤ 1073741824) : Good size first (putL l f x) := by
  have ha : ∀ p ∈ l.take (lo l f), p.1 < f := fun p hp => by rw [take_lo h.up] at hp; simpa using (List.mem_filter.1 hp).2
  have hb := put_behind (f := f) h.up
  refine ⟨?_, h.ge, ?_⟩
  · unfold putL Rising
    rw [List.pairwise_append]
    refine ⟨List.Pairwise.sublist (List.take_sublist _ _) h.up, ?_, ?_⟩
    · rw [List.pairwise_cons]
      exact ⟨hb, List.Pairwise.sublist (List.drop_sublist _ _) h.up⟩
    · intro p hp q hq
      have := ha p hp
      rcases List.mem_cons.1 hq with rfl | hq
      · exact this
      · have := hb q hq
        omega
  · intro p hp
    unfold putL at hp
    rcases List.mem_append.1 hp with hp | hp
    · exact h.mem p (List.mem_of_mem_take hp)
    · rcases List.mem_cons.1 hp with rfl | hp
      · exact ⟨h1, by simp; omega, h3⟩
      · exact h.mem p (List.mem_of_mem_drop hp)

end Go.Proofs.Ytkeedegbfpenjaa.Ru
