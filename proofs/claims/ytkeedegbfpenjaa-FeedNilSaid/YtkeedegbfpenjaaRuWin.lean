/- Windows as lists of frames and things, rising; where a frame stands (place, with the library's search); plain facts on such lists. -/
import Derived.Test.YtkeedegbfpenjaaRuCalls
import Derived.Test.YtkeedegbfpenjaaRgDel
import Derived.Deep.LoopGhost
namespace Go.Proofs.Ytkeedegbfpenjaa.Ru
open Rg
open Go.RowKit
set_option linter.unusedVariables false

/-- frames and their things, as cells. -/
def prs (l : List (Int × Int)) : List Value := l.flatMap fun p => [.int .i64 p.1, .int .u8 p.2]
theorem prs_nil : prs [] = [] := rfl
theorem prs_cons (p : Int × Int) (l : List (Int × Int)) : prs (p :: l) = .int .i64 p.1 :: .int .u8 p.2 :: prs l := rfl
theorem prs_append (l k : List (Int × Int)) : prs (l ++ k) = prs l ++ prs k := by simp [prs]
theorem prs_len : ∀ l : List (Int × Int), (prs l).length = l.length * 2
  | [] => rfl
  | p :: l => by rw [prs_cons, List.length_cons, List.length_cons, prs_len l, List.length_cons]; omega
theorem prs_one : ∀ l : List (Int × Int), ∀ u ∈ prs l, u.oneCell' = true := by
  intro l u hu
  obtain ⟨p, _, hp⟩ := List.mem_flatMap.1 hu
  simp at hp
  rcases hp with rfl | rfl <;> rfl
theorem prs_get : ∀ (l : List (Int × Int)) (j : Nat) (p : Int × Int), l[j]? = some p → (prs l)[j * 2]? = some (.int .i64 p.1) ∧ (prs l)[j * 2 + 1]? = some (.int .u8 p.2)
  | [], _, _, h => by simp at h
  | q :: l, 0, p, h => by
    simp at h
    subst h
    exact ⟨rfl, rfl⟩
  | q :: l, j + 1, p, h => by
    have := prs_get l j p (by simpa using h)
    rw [prs_cons, show (j + 1) * 2 = j * 2 + 1 + 1 by omega]
    exact ⟨by simpa using this.1, by simpa using this.2⟩
theorem prs_take : ∀ (l : List (Int × Int)) (j : Nat), prs (l.take j) = (prs l).take (j * 2)
  | [], j => by simp [prs]
  | q :: l, 0 => by simp [prs]
  | q :: l, j + 1 => by
    rw [List.take_succ_cons, prs_cons, prs_cons, prs_take l j, show (j + 1) * 2 = j * 2 + 1 + 1 by omega, List.take_succ_cons, List.take_succ_cons]
theorem prs_drop : ∀ (l : List (Int × Int)) (j : Nat), prs (l.drop j) = (prs l).drop (j * 2)
  | [], j => by simp [prs]
  | q :: l, 0 => by simp [prs]
  | q :: l, j + 1 => by
    rw [List.drop_succ_cons, prs_cons, prs_drop l j, show (j + 1) * 2 = j * 2 + 1 + 1 by omega, List.drop_succ_cons, List.drop_succ_cons]

/-- frames rise. -/
def Rising (l : List (Int × Int)) : Prop := l.Pairwise fun a b => a.1 < b.1
/-- how many stand ahead of a frame. -/
def lo (l : List (Int × Int)) (f : Int) : Nat := (l.takeWhile fun p => decide (p.1 < f)).length
theorem lo_le (l : List (Int × Int)) (f : Int) : lo l f ≤ l.length := by
  unfold lo
  exact List.Sublist.length_le (List.takeWhile_sublist _)
theorem lo_cons_yes {p : Int × Int} {l : List (Int × Int)} {f : Int} (h : p.1 < f) : lo (p :: l) f = lo l f + 1 := by simp [lo, h]
theorem lo_cons_no {p : Int × Int} {l : List (Int × Int)} {f : Int} (h : ¬ p.1 < f) : lo (p :: l) f = 0 := by simp [lo, h]
theorem lo_lt : ∀ {l : List (Int × Int)} {f : Int}, Rising l → ∀ (j : Nat) (p : Int × Int), l[j]? = some p → (j < lo l f ↔ p.1 < f)
  | [], _, _, _, _, h => by simp at h
  | q :: l, f, hr, j, p, h => by
    obtain ⟨h1, h2⟩ := List.pairwise_cons.1 hr
    by_cases hq : q.1 < f
    · rw [lo_cons_yes hq]
      cases j with
      | zero => simp at h; subst h; simp [hq]
      | succ j =>
        have := lo_lt (f := f) h2 j p (by simpa using h)
        omega
    · rw [lo_cons_no hq]
      cases j with
      | zero => simp at h; subst h; simp [hq]
      | succ j =>
        have hm : p ∈ l := List.mem_of_getElem? (by simpa using h)
        have := h1 p hm
        omega

/-- a window with the things l. -/
abbrev Win (w : World) (n₀ t e b size : Nat) (first : Int) (ao : Option Addr) (cap : Nat) (l : List (Int × Int)) : Prop := Held w n₀ t e 2 b [.int .i64 size, .int .i64 first] ao l.length cap (prs l)

theorem win_cell {w : World} {n₀ e cap : Nat} {ao : Option Addr} {l : List (Int × Int)} (h : w.ownsRow n₀ e 2 (.slice ao l.length cap) l.length (prs l)) (j : Nat) (p : Int × Int) (hp : l[j]? = some p) :
    ∃ g, ao = some ⟨g, 0, none⟩ ∧ g < w.heap.size ∧ w.cell? ⟨g, j * 2, none⟩ = some (.int .i64 p.1) ∧ w.cell? ⟨g, j * 2 + 1, none⟩ = some (.int .u8 p.2) := by
  have hj : j < l.length := (List.getElem?_eq_some_iff.1 hp).1
  rcases h.2 with ⟨h1, h2⟩ | ⟨g, cap', cur, h1, _, hg, _⟩
  · omega
  · cases h1
    have := prs_get l j p hp
    exact ⟨g, rfl, (Array.getElem?_eq_some_iff.1 hg).1, (h.cellAt (j * 2) (by omega)).trans this.1, (h.cellAt (j * 2 + 1) (by omega)).trans this.2⟩

/-- how one number stands to another one. -/
def cmpI (a b : Int) : Int := if a < b then -1 else if b < a then 1 else 0

theorem nan_c (a : Int) (w : World) :
    Calls Try.prog 40 #[.int .i64 a] w fun e w' => e = .returned (.bool false) ∧ w = w' := by
  go_enter Try.func40, Try.ntmps40
  go_wp2
  go_ret
  exact ⟨rfl, rfl⟩

theorem compare_c (a b : Int) (w : World) :
    Calls Try.prog 35 #[.int .i64 a, .int .i64 b] w fun e w' => e = .returned (.int .i64 (cmpI a b)) ∧ w = w' := by
  have h : (a < b ∧ Hid (cmpI a b = -1)) ∨ (¬ a < b ∧ b < a ∧ Hid (cmpI a b = 1)) ∨ (¬ a < b ∧ ¬ b < a ∧ Hid (cmpI a b = 0)) := by
    unfold Hid cmpI
    by_cases h1 : a < b
    · exact .inl ⟨h1, by simp [h1]⟩
    · by_cases h2 : b < a
      · exact .inr (.inl ⟨h1, h2, by simp [h1, h2]⟩)
      · exact .inr (.inr ⟨h1, h2, by simp [h1, h2]⟩)
  rcases h with ⟨h1, h3⟩ | ⟨h1, h2, h3⟩ | ⟨h1, h2, h3⟩
  all_goals
    rw [h3.out]
    go_enter Try.func35, Try.ntmps35
    go_wp2_with (go_at_call 40; ((with_reducible refine (nan_c _ _).mono ?_); rintro e w' ⟨rfl, rfl⟩))
    go_ret
    exact ⟨rfl, rfl⟩

theorem place1_c (f x y : Int) (w : World) :
    Calls Try.prog 34 #[.agg #[.int .i64 f, .int .u8 x], .int .i64 y] w fun e w' => e = .returned (.int .i64 (cmpI f y)) ∧ Below w.heap.size w w' := by
  have hB : Below w.heap.size w (w.alloc (.cells #[.int .i64 f, .int .u8 x] 59)) := (Below.refl _ w).alloc (Nat.le_refl _) _
  go_enter Try.func34, Try.ntmps34
  go_wp2_with (go_at_call 35; ((with_reducible refine (compare_c _ _ _).mono ?_); rintro e w' ⟨rfl, rfl⟩))
  go_ret
  exact ⟨rfl, hB⟩

end Go.Proofs.Ytkeedegbfpenjaa.Ru
