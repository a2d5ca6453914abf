/- The law RingWindows: its ways out ahead of the loop, and what the loop begins with. -/
import Derived.Test.YtlfhffljepganaaRgWBoth
import Derived.Test.YtlfhffljepganaaRgLaw1
import Derived.Test.YtlfhffljepganaaRgActs
namespace Go.Proofs.Ytlfhffljepganaa.Rg
open Go.RowKit
set_option linter.unusedVariables false

theorem open_no (size first : Int) (h : ¬ (1 ≤ size ∧ size ≤ 4096) ∨ first < 0 ∨ 1073741824 < first) (w : World) :
    Calls Try.prog 19 #[.int .i64 size, .int .i64 first] w fun e w' => e = .returned (.tuple #[.pointer none, .int .i64 1]) ∧ w = w' := by
  by_cases hs : 1 ≤ size ∧ size ≤ 4096
  · have s := hid (size_yes size hs)
    by_cases h1 : first < 0
    · have d1 : decide (first < 0) = true := by simpa using h1
      go_enter Try.func19, Try.ntmps19
      go_wp2_with (go_at_call 30; ((with_reducible refine (isSize_c _ _).mono ?_); rintro e w' ⟨rfl, rfl⟩; rw [s.out]))
      go_ret2
      exact ⟨rfl, rfl⟩
    · have d1 : decide (first < 0) = false := by simpa using h1
      have d2 : decide (1073741824 < first) = true := by
        rw [decide_eq_true_iff]
        rcases h with h | h | h
        · exact absurd hs h
        · exact absurd h h1
        · exact h
      clear h h1
      go_enter Try.func19, Try.ntmps19
      go_wp2_with (go_at_call 30; ((with_reducible refine (isSize_c _ _).mono ?_); rintro e w' ⟨rfl, rfl⟩; rw [s.out]))
      go_ret2
      exact ⟨rfl, rfl⟩
  · have s := hid (size_no size hs)
    clear h hs
    go_enter Try.func19, Try.ntmps19
    go_wp2_with (go_at_call 30; ((with_reducible refine (isSize_c _ _).mono ?_); rintro e w' ⟨rfl, rfl⟩; rw [s.out]))
    go_ret2
    exact ⟨rfl, rfl⟩

set_option maxRecDepth 100000 in
theorem windows_big (size first ask : Int) (ad : Option Addr) (len cap : Nat) (w : World) (h : 40 < size ∧ size ≤ 4096) :
    Calls Try.prog 5 #[.int .i64 size, .int .i64 first, .slice ad len cap, .int .i64 ask] w fun e w' => e = .returned (.bool true) ∧ Below w.heap.size w w' := by
  obtain ⟨h1, h2⟩ := h
  have d1 : decide (40 < size) = true := by simpa using h1
  have d2 : decide (size ≤ 4096) = true := by simpa using h2
  go_enter Try.func5, Try.ntmps5
  go_wp2_with (go_at_call 7; ((with_reducible refine (awake_c _).mono ?_); rintro e w1 ⟨rfl, hB⟩))
  go_ret
  exact ⟨rfl, hB⟩

set_option maxRecDepth 100000 in
theorem windows_wrong (size first ask : Int) (ad : Option Addr) (len cap : Nat) (w : World) (hnb : ¬ (40 < size ∧ size ≤ 4096)) (h : ¬ (1 ≤ size ∧ size ≤ 4096) ∨ first < 0 ∨ 1073741824 < first) :
    Calls Try.prog 5 #[.int .i64 size, .int .i64 first, .slice ad len cap, .int .i64 ask] w fun e w' => e = .returned (.bool true) ∧ Below w.heap.size w w' := by
  have HO := hid (fun W => open_no size first h W)
  have hq : (decide (40 < size) = false ∨ (decide (40 < size) = true ∧ decide (size ≤ 4096) = false)) ∧ (decide (size < 1) = true ∨ (decide (size < 1) = false ∧ decide (4096 < size) = true) ∨ (decide (size < 1) = false ∧ decide (4096 < size) = false ∧ (decide (first < 0) = true ∨ (decide (first < 0) = false ∧ decide (1073741824 < first) = true)))) := by
    simp only [decide_eq_true_iff, decide_eq_false_iff_not]
    omega
  clear h hnb
  obtain ⟨h1 | ⟨h1, h2⟩, h3 | ⟨h3, h4⟩ | ⟨h3, h4, h5 | ⟨h5, h6⟩⟩⟩ := hq
  all_goals
    go_enter Try.func5, Try.ntmps5
    go_wp2_with (first
      | (go_at_call 7; ((with_reducible refine (awake_c _).mono ?_); rintro e w1 ⟨rfl, hB⟩))
      | (go_at_call 19; ((with_reducible refine (HO.out _).mono ?_); rintro e w2 ⟨rfl, rfl⟩)))
    go_ret
    exact ⟨rfl, hB⟩

theorem wboth_new {w w1 w2 : World} {size : Nat} {first : Int} (hB1 : Below w.heap.size w w1) (hB2 : Below w1.heap.size w1 w2) (hr : Win w2 w.heap.size 66 68 w1.heap.size size first none 0 []) :
    WBoth w (w2.alloc (.cells #[.int .i64 size, .int .i64 first, .slice none 0 0] 51)) w1.heap.size w2.heap.size size first [] first [] := by
  have hB3 : Below w.heap.size w w2 := hB1.trans (hB2.mono hB1.size)
  have hlt := hr.lt
  refine ⟨⟨none, 0, none, 0, hr.alloc _, Held.new w2 w.heap.size 51 56 2 [.int .i64 size, .int .i64 first] hB3.size, ?_⟩, hB3.alloc hB3.size _⟩
  rintro i (rfl | ⟨a, ha, _⟩)
  · rintro (h | ⟨a, ha, _⟩)
    · omega
    · cases ha
  · cases ha

end Go.Proofs.Ytlfhffljepganaa.Rg
