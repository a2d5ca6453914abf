/- What each function of layer 1 (fixed), and each of its document's answers, returns when it is called with any numbers of its parameters' kinds; no function here changes the memory. -/
import Derived.Test.YthbncbdnpeglfaaRows
import Derived.WalkKit
import Derived.Test.YthbncbdnpeglfaaFxMath
namespace Go.Proofs.Ythbncbdnpeglfaa.Fx
open Go.RowKit

theorem hold_c (n l m : Int) (w : World) :
    Calls Try.prog 54 #[.int .i64 n, .int .i64 l, .int .i64 m] w fun e w' => e = .returned (.int .i64 (holdI n l m)) ∧ w = w' := by
  unfold holdI
  by_cases h1 : m < n
  · by_cases h2 : m < l
    all_goals
      go_enter Try.func54, Try.ntmps54
      go_wp2
      go_ret
      exact ⟨rfl, rfl⟩
  · by_cases h2 : n < l
    all_goals
      go_enter Try.func54, Try.ntmps54
      go_wp2
      go_ret
      exact ⟨rfl, rfl⟩

theorem sat_c (n : Int) (w : World) :
    Calls Try.prog 53 #[.int .i64 n] w fun e w' => e = .returned (.int .i32 (satI n)) ∧ w = w' := by
  have hb := sat_bd n
  go_enter Try.func53, Try.ntmps53
  go_wp2_with (go_at_call 54; ((with_reducible refine (hold_c _ _ _ _).mono ?_); rintro e w' ⟨rfl, rfl⟩; rw [hold_sat]))
  go_ret
  exact ⟨rfl, rfl⟩

theorem add_c (a b : Int) (ha : -2147483648 ≤ a ∧ a ≤ 2147483647) (hb : -2147483648 ≤ b ∧ b ≤ 2147483647) (w : World) :
    Calls Try.prog 51 #[.int .i32 a, .int .i32 b] w fun e w' => e = .returned (.int .i32 (satI (a + b))) ∧ w = w' := by
  go_enter Try.func51, Try.ntmps51
  go_wp2_with (go_at_call 53; ((with_reducible refine (sat_c _ _).mono ?_); rintro e w' ⟨rfl, rfl⟩))
  go_ret
  exact ⟨rfl, rfl⟩

theorem sub_c (a b : Int) (ha : -2147483648 ≤ a ∧ a ≤ 2147483647) (hb : -2147483648 ≤ b ∧ b ≤ 2147483647) (w : World) :
    Calls Try.prog 52 #[.int .i32 a, .int .i32 b] w fun e w' => e = .returned (.int .i32 (satI (a - b))) ∧ w = w' := by
  go_enter Try.func52, Try.ntmps52
  go_wp2_with (go_at_call 53; ((with_reducible refine (sat_c _ _).mono ?_); rintro e w' ⟨rfl, rfl⟩))
  go_ret
  exact ⟨rfl, rfl⟩

/-- n as loud as g says. -/
def scaleI (n g : Int) : Int := holdI n (-2147483648) 2147483648 * holdI g (-2147483648) 2147483648 / 32768
theorem scale_bd (n g : Int) : -4611686018427387904 ≤ holdI n (-2147483648) 2147483648 * holdI g (-2147483648) 2147483648 ∧ holdI n (-2147483648) 2147483648 * holdI g (-2147483648) 2147483648 ≤ 4611686018427387904 := by
  have h1 := hold_in n (-2147483648) 2147483648 (by omega)
  have h2 := hold_in g (-2147483648) 2147483648 (by omega)
  have := mul_bd _ _ 2147483648 2147483648 h1 h2
  omega

end Go.Proofs.Ythbncbdnpeglfaa.Fx
