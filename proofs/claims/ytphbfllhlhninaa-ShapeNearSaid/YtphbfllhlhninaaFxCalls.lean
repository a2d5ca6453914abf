/- What each function of layer 1 (fixed), and each of its document's answers, returns when it is called with any numbers of its parameters' kinds; no function here changes the memory. -/
import Derived.Test.YtphbfllhlhninaaRows
import Derived.WalkKit
import Derived.Test.YtphbfllhlhninaaFxMath
namespace Go.Proofs.Ytphbfllhlhninaa.Fx
open Go.RowKit

theorem hold_c (n l m : Int) (w : World) :
    Calls Try.prog 53 #[.int .i64 n, .int .i64 l, .int .i64 m] w fun e w' => e = .returned (.int .i64 (holdI n l m)) ∧ w = w' := by
  unfold holdI
  by_cases h1 : m < n
  · by_cases h2 : m < l
    all_goals
      go_enter Try.func53, Try.ntmps53
      go_wp2
      go_ret
      exact ⟨rfl, rfl⟩
  · by_cases h2 : n < l
    all_goals
      go_enter Try.func53, Try.ntmps53
      go_wp2
      go_ret
      exact ⟨rfl, rfl⟩

theorem sat_c (n : Int) (w : World) :
    Calls Try.prog 44 #[.int .i64 n] w fun e w' => e = .returned (.int .i32 (satI n)) ∧ w = w' := by
  have hb := sat_bd n
  go_enter Try.func44, Try.ntmps44
  go_wp2_with (go_at_call 53; ((with_reducible refine (hold_c _ _ _ _).mono ?_); rintro e w' ⟨rfl, rfl⟩; rw [hold_sat]))
  go_ret
  exact ⟨rfl, rfl⟩

theorem rsat_c (n : Int) (w : World) :
    Calls Try.prog 43 #[.int .i64 n] w fun e w' => e = .returned (.int .i32 (satI n)) ∧ w = w' := by
  unfold satI
  by_cases h1 : 2147483647 < n
  · go_enter Try.func43, Try.ntmps43
    go_wp2
    go_ret
    exact ⟨rfl, rfl⟩
  · by_cases h2 : n < -2147483648
    all_goals
      go_enter Try.func43, Try.ntmps43
      go_wp2
      go_ret
      exact ⟨rfl, rfl⟩

theorem add_c (a b : Int) (ha : -2147483648 ≤ a ∧ a ≤ 2147483647) (hb : -2147483648 ≤ b ∧ b ≤ 2147483647) (w : World) :
    Calls Try.prog 31 #[.int .i32 a, .int .i32 b] w fun e w' => e = .returned (.int .i32 (satI (a + b))) ∧ w = w' := by
  go_enter Try.func31, Try.ntmps31
  go_wp2_with (go_at_call 44; ((with_reducible refine (sat_c _ _).mono ?_); rintro e w' ⟨rfl, rfl⟩))
  go_ret
  exact ⟨rfl, rfl⟩

theorem sub_c (a b : Int) (ha : -2147483648 ≤ a ∧ a ≤ 2147483647) (hb : -2147483648 ≤ b ∧ b ≤ 2147483647) (w : World) :
    Calls Try.prog 32 #[.int .i32 a, .int .i32 b] w fun e w' => e = .returned (.int .i32 (satI (a - b))) ∧ w = w' := by
  go_enter Try.func32, Try.ntmps32
  go_wp2_with (go_at_call 44; ((with_reducible refine (sat_c _ _).mono ?_); rintro e w' ⟨rfl, rfl⟩))
  go_ret
  exact ⟨rfl, rfl⟩

theorem mul_c (a b : Int) (ha : -2147483648 ≤ a ∧ a ≤ 2147483647) (hb : -2147483648 ≤ b ∧ b ≤ 2147483647) (w : World) :
    Calls Try.prog 33 #[.int .i32 a, .int .i32 b] w fun e w' => e = .returned (.int .i32 (satI (a * b / 65536))) ∧ w = w' := by
  have hm := mul32 a b ha hb
  go_enter Try.func33, Try.ntmps33
  go_wp2_with (go_at_call 44; ((with_reducible refine (sat_c _ _).mono ?_); rintro e w' ⟨rfl, rfl⟩))
  go_ret
  exact ⟨rfl, rfl⟩

theorem neg_c (a : Int) (ha : -2147483648 ≤ a ∧ a ≤ 2147483647) (w : World) :
    Calls Try.prog 54 #[.int .i32 a] w fun e w' => e = .returned (.int .i32 (satI (-a))) ∧ w = w' := by
  go_enter Try.func54, Try.ntmps54
  go_wp2_with (go_at_call 44; ((with_reducible refine (sat_c _ _).mono ?_); rintro e w' ⟨rfl, rfl⟩))
  go_ret
  exact ⟨rfl, rfl⟩

theorem divDown_c (a b : Int) (ha : -4611686018427387904 ≤ a ∧ a ≤ 4611686018427387904) (h0 : b ≠ 0) (w : World) :
    Calls Try.prog 57 #[.int .i64 a, .int .i64 b] w fun e w' => e = .returned (.int .i64 (downI a b)) ∧ w = w' := by
  by_cases h : a.tmod b = 0
  · rw [← down_same a b h0 ha h]
    go_enter Try.func57, Try.ntmps57
    go_wp2
    go_ret
    exact ⟨rfl, rfl⟩
  · by_cases k : (!decide (a < 0) == decide (b < 0)) = true
    · rw [← down_less a b h0 ha h k]
      have h' : (a.tmod b != 0) = true := by simpa using h
      go_enter Try.func57, Try.ntmps57
      go_wp2
      go_ret
      exact ⟨rfl, rfl⟩
    · have k' : (!decide (a < 0) == decide (b < 0)) = false := by simpa using k
      rw [← down_alike a b h0 ha k']
      have h' : (a.tmod b != 0) = true := by simpa using h
      clear k
      go_enter Try.func57, Try.ntmps57
      go_wp2
      go_ret
      exact ⟨rfl, rfl⟩

theorem rfloor_c (a b : Int) (ha : -4611686018427387904 ≤ a ∧ a ≤ 4611686018427387904) (hb : 0 < b) (hb' : b ≤ 2147483648) (w : World) :
    Calls Try.prog 45 #[.int .i64 a, .int .i64 b] w fun e w' => e = .returned (.int .i64 (a / b)) ∧ w = w' := by
  have hm := tmod_bd a b hb
  have hd := ediv_bd a b _ hb (by omega) ha
  by_cases h : a.tmod b < 0
  · rw [← floor_less a b hb h] at hd ⊢
    go_enter Try.func45, Try.ntmps45
    go_wp2
    go_ret
    exact ⟨rfl, rfl⟩
  · rw [← floor_same a b hb h] at hd ⊢
    go_enter Try.func45, Try.ntmps45
    go_wp2
    go_ret
    exact ⟨rfl, rfl⟩

theorem endOf_c (a : Int) (w : World) :
    Calls Try.prog 56 #[.int .i32 a] w fun e w' => e = .returned (.int .i32 (endI a)) ∧ w = w' := by
  unfold endI
  by_cases h1 : 0 < a
  · go_enter Try.func56, Try.ntmps56
    go_wp2
    go_ret
    exact ⟨rfl, rfl⟩
  · by_cases h2 : a < 0
    all_goals
      go_enter Try.func56, Try.ntmps56
      go_wp2
      go_ret
      exact ⟨rfl, rfl⟩

theorem div_c (a b : Int) (ha : -2147483648 ≤ a ∧ a ≤ 2147483647) (hb : -2147483648 ≤ b ∧ b ≤ 2147483647) (w : World) :
    Calls Try.prog 55 #[.int .i32 a, .int .i32 b] w fun e w' => e = .returned (.int .i32 (divI a b)) ∧ w = w' := by
  by_cases h : b = 0
  · subst h
    unfold divI
    rw [if_pos rfl]
    go_enter Try.func55, Try.ntmps55
    go_wp2_with (go_at_call 56; ((with_reducible refine (endOf_c _ _).mono ?_); rintro e w' ⟨rfl, rfl⟩))
    go_ret
    exact ⟨rfl, rfl⟩
  · unfold divI
    rw [if_neg h]
    go_enter Try.func55, Try.ntmps55
    go_wp2_with (first
      | (go_at_call 57; ((with_reducible refine (divDown_c _ _ (by omega) h _).mono ?_); rintro e w' ⟨rfl, rfl⟩))
      | (go_at_call 44; ((with_reducible refine (sat_c _ _).mono ?_); rintro e w' ⟨rfl, rfl⟩)))
    go_ret
    exact ⟨rfl, rfl⟩

theorem rdiv_c (a b : Int) (ha : -2147483648 ≤ a ∧ a ≤ 2147483647) (hb : -2147483648 ≤ b ∧ b ≤ 2147483647) (w : World) :
    Calls Try.prog 50 #[.int .i32 a, .int .i32 b] w fun e w' => e = .returned (.int .i32 (divI a b)) ∧ w = w' := by
  unfold divI
  by_cases h : b = 0
  · subst h
    rw [if_pos rfl]
    unfold endI
    by_cases h1 : 0 < a
    · go_enter Try.func50, Try.ntmps50
      go_wp2
      go_ret
      exact ⟨rfl, rfl⟩
    · by_cases h2 : a < 0
      all_goals
        go_enter Try.func50, Try.ntmps50
        go_wp2
        go_ret
        exact ⟨rfl, rfl⟩
  · rw [if_neg h]
    unfold downI
    by_cases hp : 0 < b
    · rw [if_pos hp]
      go_enter Try.func50, Try.ntmps50
      go_wp2_with (first
        | (go_at_call 45; ((with_reducible refine (rfloor_c _ _ (by omega) hp (by omega) _).mono ?_); rintro e w' ⟨rfl, rfl⟩))
        | (go_at_call 43; ((with_reducible refine (rsat_c _ _).mono ?_); rintro e w' ⟨rfl, rfl⟩)))
      go_ret
      exact ⟨rfl, rfl⟩
    · rw [if_neg hp, ← Int.neg_mul]
      go_enter Try.func50, Try.ntmps50
      go_wp2_with (first
        | (go_at_call 45; ((with_reducible refine (rfloor_c _ _ (by omega) (by omega) (by omega) _).mono ?_); rintro e w' ⟨rfl, rfl⟩))
        | (go_at_call 43; ((with_reducible refine (rsat_c _ _).mono ?_); rintro e w' ⟨rfl, rfl⟩)))
      go_ret
      exact ⟨by simp, rfl⟩

theorem rmul_c (a b : Int) (ha : -2147483648 ≤ a ∧ a ≤ 2147483647) (hb : -2147483648 ≤ b ∧ b ≤ 2147483647) (w : World) :
    Calls Try.prog 34 #[.int .i32 a, .int .i32 b] w fun e w' => e = .returned (.int .i32 (satI (a * b / 65536))) ∧ w = w' := by
  have hm := mul32 a b ha hb
  go_enter Try.func34, Try.ntmps34
  go_wp2_with (first
    | (go_at_call 45; ((with_reducible refine (rfloor_c _ _ hm (by omega) (by omega) _).mono ?_); rintro e w' ⟨rfl, rfl⟩))
    | (go_at_call 43; ((with_reducible refine (rsat_c _ _).mono ?_); rintro e w' ⟨rfl, rfl⟩)))
  go_ret
  exact ⟨rfl, rfl⟩

/-- n as loud as g says. -/
def scaleI (n g : Int) : Int := holdI n (-2147483648) 2147483648 * holdI g (-2147483648) 2147483648 / 32768
theorem scale_bd (n g : Int) : -4611686018427387904 ≤ holdI n (-2147483648) 2147483648 * holdI g (-2147483648) 2147483648 ∧ holdI n (-2147483648) 2147483648 * holdI g (-2147483648) 2147483648 ≤ 4611686018427387904 := by
  have h1 := hold_in n (-2147483648) 2147483648 (by omega)
  have h2 := hold_in g (-2147483648) 2147483648 (by omega)
  have := mul_bd _ _ 2147483648 2147483648 h1 h2
  omega

end Go.Proofs.Ytphbfllhlhninaa.Fx
