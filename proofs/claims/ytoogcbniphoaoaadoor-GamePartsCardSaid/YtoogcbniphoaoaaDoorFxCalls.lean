/- What each function of layer 1 (fixed), and each of its document's answers, returns when it is called with any numbers of its parameters' kinds; no function here changes the memory. -/
import Derived.Test.YtoogcbniphoaoaaDoorRows
import Derived.WalkKit
import Derived.Test.YtoogcbniphoaoaaDoorFxMath
namespace Go.Proofs.YtoogcbniphoaoaaDoor.Fx
open Go.RowKit

theorem hold_c (n l m : Int) (w : World) :
    Calls Tryd.prog 72 #[.int .i64 n, .int .i64 l, .int .i64 m] w fun e w' => e = .returned (.int .i64 (holdI n l m)) ∧ w = w' := by
  unfold holdI
  by_cases h1 : m < n
  · by_cases h2 : m < l
    all_goals
      go_enter Tryd.func72, Tryd.ntmps72
      go_wp2
      go_ret
      exact ⟨rfl, rfl⟩
  · by_cases h2 : n < l
    all_goals
      go_enter Tryd.func72, Tryd.ntmps72
      go_wp2
      go_ret
      exact ⟨rfl, rfl⟩

theorem sat_c (n : Int) (w : World) :
    Calls Tryd.prog 61 #[.int .i64 n] w fun e w' => e = .returned (.int .i32 (satI n)) ∧ w = w' := by
  have hb := sat_bd n
  go_enter Tryd.func61, Tryd.ntmps61
  go_wp2_with (go_at_call 72; ((with_reducible refine (hold_c _ _ _ _).mono ?_); rintro e w' ⟨rfl, rfl⟩; rw [hold_sat]))
  go_ret
  exact ⟨rfl, rfl⟩

theorem add_c (a b : Int) (ha : -2147483648 ≤ a ∧ a ≤ 2147483647) (hb : -2147483648 ≤ b ∧ b ≤ 2147483647) (w : World) :
    Calls Tryd.prog 47 #[.int .i32 a, .int .i32 b] w fun e w' => e = .returned (.int .i32 (satI (a + b))) ∧ w = w' := by
  go_enter Tryd.func47, Tryd.ntmps47
  go_wp2_with (go_at_call 61; ((with_reducible refine (sat_c _ _).mono ?_); rintro e w' ⟨rfl, rfl⟩))
  go_ret
  exact ⟨rfl, rfl⟩

theorem sub_c (a b : Int) (ha : -2147483648 ≤ a ∧ a ≤ 2147483647) (hb : -2147483648 ≤ b ∧ b ≤ 2147483647) (w : World) :
    Calls Tryd.prog 58 #[.int .i32 a, .int .i32 b] w fun e w' => e = .returned (.int .i32 (satI (a - b))) ∧ w = w' := by
  go_enter Tryd.func58, Tryd.ntmps58
  go_wp2_with (go_at_call 61; ((with_reducible refine (sat_c _ _).mono ?_); rintro e w' ⟨rfl, rfl⟩))
  go_ret
  exact ⟨rfl, rfl⟩

theorem mul_c (a b : Int) (ha : -2147483648 ≤ a ∧ a ≤ 2147483647) (hb : -2147483648 ≤ b ∧ b ≤ 2147483647) (w : World) :
    Calls Tryd.prog 54 #[.int .i32 a, .int .i32 b] w fun e w' => e = .returned (.int .i32 (satI (a * b / 65536))) ∧ w = w' := by
  have hm := mul32 a b ha hb
  go_enter Tryd.func54, Tryd.ntmps54
  go_wp2_with (go_at_call 61; ((with_reducible refine (sat_c _ _).mono ?_); rintro e w' ⟨rfl, rfl⟩))
  go_ret
  exact ⟨rfl, rfl⟩

theorem neg_c (a : Int) (ha : -2147483648 ≤ a ∧ a ≤ 2147483647) (w : World) :
    Calls Tryd.prog 83 #[.int .i32 a] w fun e w' => e = .returned (.int .i32 (satI (-a))) ∧ w = w' := by
  go_enter Tryd.func83, Tryd.ntmps83
  go_wp2_with (go_at_call 61; ((with_reducible refine (sat_c _ _).mono ?_); rintro e w' ⟨rfl, rfl⟩))
  go_ret
  exact ⟨rfl, rfl⟩

theorem divDown_c (a b : Int) (ha : -4611686018427387904 ≤ a ∧ a ≤ 4611686018427387904) (h0 : b ≠ 0) (w : World) :
    Calls Tryd.prog 74 #[.int .i64 a, .int .i64 b] w fun e w' => e = .returned (.int .i64 (downI a b)) ∧ w = w' := by
  by_cases h : a.tmod b = 0
  · rw [← down_same a b h0 ha h]
    go_enter Tryd.func74, Tryd.ntmps74
    go_wp2
    go_ret
    exact ⟨rfl, rfl⟩
  · by_cases k : (!decide (a < 0) == decide (b < 0)) = true
    · rw [← down_less a b h0 ha h k]
      have h' : (a.tmod b != 0) = true := by simpa using h
      go_enter Tryd.func74, Tryd.ntmps74
      go_wp2
      go_ret
      exact ⟨rfl, rfl⟩
    · have k' : (!decide (a < 0) == decide (b < 0)) = false := by simpa using k
      rw [← down_alike a b h0 ha k']
      have h' : (a.tmod b != 0) = true := by simpa using h
      clear k
      go_enter Tryd.func74, Tryd.ntmps74
      go_wp2
      go_ret
      exact ⟨rfl, rfl⟩

theorem endOf_c (a : Int) (w : World) :
    Calls Tryd.prog 73 #[.int .i32 a] w fun e w' => e = .returned (.int .i32 (endI a)) ∧ w = w' := by
  unfold endI
  by_cases h1 : 0 < a
  · go_enter Tryd.func73, Tryd.ntmps73
    go_wp2
    go_ret
    exact ⟨rfl, rfl⟩
  · by_cases h2 : a < 0
    all_goals
      go_enter Tryd.func73, Tryd.ntmps73
      go_wp2
      go_ret
      exact ⟨rfl, rfl⟩

theorem div_c (a b : Int) (ha : -2147483648 ≤ a ∧ a ≤ 2147483647) (hb : -2147483648 ≤ b ∧ b ≤ 2147483647) (w : World) :
    Calls Tryd.prog 62 #[.int .i32 a, .int .i32 b] w fun e w' => e = .returned (.int .i32 (divI a b)) ∧ w = w' := by
  by_cases h : b = 0
  · subst h
    unfold divI
    rw [if_pos rfl]
    go_enter Tryd.func62, Tryd.ntmps62
    go_wp2_with (go_at_call 73; ((with_reducible refine (endOf_c _ _).mono ?_); rintro e w' ⟨rfl, rfl⟩))
    go_ret
    exact ⟨rfl, rfl⟩
  · unfold divI
    rw [if_neg h]
    go_enter Tryd.func62, Tryd.ntmps62
    go_wp2_with (first
      | (go_at_call 74; ((with_reducible refine (divDown_c _ _ (by omega) h _).mono ?_); rintro e w' ⟨rfl, rfl⟩))
      | (go_at_call 61; ((with_reducible refine (sat_c _ _).mono ?_); rintro e w' ⟨rfl, rfl⟩)))
    go_ret
    exact ⟨rfl, rfl⟩

/-- n as loud as g says. -/
def scaleI (n g : Int) : Int := holdI n (-2147483648) 2147483648 * holdI g (-2147483648) 2147483648 / 32768
theorem scale_bd (n g : Int) : -4611686018427387904 ≤ holdI n (-2147483648) 2147483648 * holdI g (-2147483648) 2147483648 ∧ holdI n (-2147483648) 2147483648 * holdI g (-2147483648) 2147483648 ≤ 4611686018427387904 := by
  have h1 := hold_in n (-2147483648) 2147483648 (by omega)
  have h2 := hold_in g (-2147483648) 2147483648 (by omega)
  have := mul_bd _ _ 2147483648 2147483648 h1 h2
  omega

end Go.Proofs.YtoogcbniphoaoaaDoor.Fx
