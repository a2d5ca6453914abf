/- What the library's search answers on a window's list: how many stand ahead of a frame, and whether it stands there; what place answers. -/
import Derived.Test.YtkeedegbfpenjaaRuWin
namespace Go.Proofs.Ytkeedegbfpenjaa.Ru
open Rg
open Go.RowKit
set_option linter.unusedVariables false

/-- whether a frame has a thing. -/
def hasF (l : List (Int × Int)) (f : Int) : Bool := match l[lo l f]? with | some p => p.1 == f | none => false
theorem hasF_none {l : List (Int × Int)} {f : Int} (h : l[lo l f]? = none) : hasF l f = false := by simp [hasF, h]
theorem hasF_some {l : List (Int × Int)} {f : Int} {p : Int × Int} (h : l[lo l f]? = some p) : hasF l f = (p.1 == f) := by simp [hasF, h]
theorem cmpI_lt (a b : Int) : cmpI a b < 0 ↔ a < b := by unfold cmpI; split <;> (try split) <;> omega
theorem cmpI_eq (a b : Int) : (cmpI a b == 0) = (a == b) := by
  rw [Bool.eq_iff_iff]
  simp only [beq_iff_eq]
  unfold cmpI; split <;> (try split) <;> omega

set_option maxHeartbeats 1000000 in
theorem search_c (n₀ cap : Nat) (ao : Option Addr) (l : List (Int × Int)) (y : Int) (w : World) (h : w.ownsRow n₀ 59 2 (.slice ao l.length cap) l.length (prs l)) (hr : Rising l) (hl : l.length ≤ 4096) :
    Calls Try.prog 33 #[.slice ao l.length cap, .int .i64 y, .func (.func 34) #[] #[]] w fun e w' => e = .returned (.tuple #[.int .i64 (lo l y), .bool (hasF l y)]) ∧ Below w.heap.size w w' := by
  have hcell : Hid (∀ W, Below w.heap.size w W → ∀ (j : Nat) (p : Int × Int), l[j]? = some p → ∃ g, ao = some ⟨g, 0, none⟩ ∧ W.cell? ⟨g, j * 2, none⟩ = some (.int .i64 p.1) ∧ W.cell? ⟨g, j * 2 + 1, none⟩ = some (.int .u8 p.2)) := by
    intro W hW j p hp
    obtain ⟨g, e1, e2, e3, e4⟩ := win_cell h j p hp
    exact ⟨g, e1, (hW.cell (p := ⟨g, j * 2, none⟩) e2).trans e3, (hW.cell (p := ⟨g, j * 2 + 1, none⟩) e2).trans e4⟩
  obtain ⟨L, HL⟩ : ∃ L, Hid (lo l y = L) := ⟨_, rfl⟩
  obtain ⟨N, HN⟩ : ∃ N, Hid (l.length = N) := ⟨_, rfl⟩
  have hLN : L ≤ N := by have := lo_le l y; rw [HL.out, HN.out] at this; exact this
  have hN : N ≤ 4096 := by rw [← HN.out]; exact hl
  have hlt : Hid (∀ (j : Nat) (p : Int × Int), l[j]? = some p → (j < L ↔ p.1 < y)) := fun j p hp => by rw [← HL.out]; exact lo_lt hr j p hp
  rw [HL.out, HN.out]
  clear h hr hl
  go_enter Try.func33, Try.ntmps33
  go_wp2_with fail
  go_loopg [9, 10] N (fun gk a b wr => ∃ i j : Nat, gk = j - i ∧ i ≤ L ∧ L ≤ j ∧ j ≤ N ∧ a = .int .i64 i ∧ b = .int .i64 j ∧ Below w.heap.size w wr)
  case atStart => exact ⟨0, N, by omega, by omega, hLN, by omega, rfl, rfl, Below.refl _ _⟩
  case round =>
    obtain ⟨i, j, hg, hiL, hLj, hjN, rfl, rfl, hB⟩ := hrel
    by_cases hij : i < j
    · obtain ⟨m, hm⟩ : ∃ m, (i + j) / 2 = m := ⟨_, rfl⟩
      have m1 : i ≤ m := by omega
      have m2 : m < j := by omega
      have hmi : ((i : Int) + (j : Int)) / 2 = (m : Int) := by omega
      clear hm
      have m3 : (m : Int) < (N : Int) := by omega
      obtain ⟨p, hp⟩ : ∃ p, l[m]? = some p := ⟨l[m]'(by rw [HN.out]; omega), List.getElem?_eq_getElem _⟩
      obtain ⟨g, rfl, e3, e4⟩ := hcell.out wr hB m p hp
      have hd := hlt.out m p hp
      have HP := hid hp
      clear hp
      by_cases hc : p.1 < y
      · have hmL := hd.2 hc
        have d1 : decide (cmpI p.1 y < 0) = true := by rw [decide_eq_true_iff]; exact (cmpI_lt _ _).2 hc
        clear hd hc
        go_wp2_with (go_at_call 34; ((with_reducible refine (place1_c _ _ _ _).mono ?_); rintro e w5 ⟨rfl, hB5⟩))
        go_roundg (j - (m + 1))
        case measure => omega
        case rel => exact ⟨m + 1, j, rfl, by omega, hLj, hjN, by go_num, rfl, hB.trans (hB5.mono hB.size)⟩
      · have hmL : L ≤ m := by
          rcases Nat.lt_or_ge m L with h | h
          · exact absurd (hd.1 h) hc
          · exact h
        have d1 : decide (cmpI p.1 y < 0) = false := by rw [decide_eq_false_iff_not]; exact fun h => hc ((cmpI_lt _ _).1 h)
        clear hd hc
        go_wp2_with (go_at_call 34; ((with_reducible refine (place1_c _ _ _ _).mono ?_); rintro e w5 ⟨rfl, hB5⟩))
        go_roundg (m - i)
        case measure => omega
        case rel => exact ⟨i, m, rfl, hiL, hmL, by omega, rfl, rfl, hB.trans (hB5.mono hB.size)⟩
    · have hij' : i = L := by omega
      have hjj' : j = L := by omega
      subst hij'
      subst hjj'
      by_cases hin : j < N
      · obtain ⟨p, hp⟩ : ∃ p, l[j]? = some p := ⟨l[j]'(by rw [HN.out]; omega), List.getElem?_eq_getElem _⟩
        obtain ⟨g, rfl, e3, e4⟩ := hcell.out wr hB j p hp
        have hF : Hid (hasF l y = (cmpI p.1 y == 0)) := by
          show _ = _
          rw [hasF_some (by rw [HL.out]; exact hp), cmpI_eq]
        have d1 : decide (j < N) = true := by rw [decide_eq_true_iff]; exact hin
        have m3 : (j : Int) < (N : Int) := by omega
        clear hp hlt
        go_wp2_with (go_at_call 34; ((with_reducible refine (place1_c _ _ _ _).mono ?_); rintro e w5 ⟨rfl, hB5⟩))
        go_ret2
        exact ⟨by rw [hF.out]; rfl, hB.trans (hB5.mono hB.size)⟩
      · have hF : Hid (hasF l y = false) := hasF_none (by rw [HL.out]; exact List.getElem?_eq_none (by rw [HN.out]; omega))
        have d1 : decide (j < N) = false := by rw [decide_eq_false_iff_not]; exact hin
        clear hlt
        go_wp2_with fail
        go_ret2
        exact ⟨by rw [hF.out]; rfl, hB⟩

theorem place_c (i : Int) (n₀ b size cap : Nat) (first : Int) (ao : Option Addr) (l : List (Int × Int)) (w : World) (h : Win w n₀ 56 59 b size first ao cap l) (hr : Rising l) (hl : l.length ≤ 4096) :
    Calls Try.prog 28 #[.pointer (some ⟨b, 0, none⟩), .int .i64 i] w fun e w' => e = .returned (.tuple #[.int .i64 (lo l i), .bool (hasF l i)]) ∧ Below w.heap.size w w' := by
  have c2 : w.cell? ⟨b, 2, none⟩ = some (.slice ao l.length cap) := by simpa using h.cell 2
  go_enter Try.func28, Try.ntmps28
  go_wp2_with (go_at_call 33; ((with_reducible refine (search_c n₀ _ _ _ _ _ h.row hr hl).mono ?_); rintro e w1 ⟨rfl, hB⟩))
  go_ret2
  exact ⟨rfl, hB⟩

end Go.Proofs.Ytkeedegbfpenjaa.Ru
