/- What each function of layer 1 (fixed), and each of its document's answers, returns when it is called with any numbers of its parameters' kinds; no function here changes the memory. -/
import Derived.Test.YtgpajdbnefdgkaaRows
import Derived.WalkKit
import Derived.Test.YtgpajdbnefdgkaaFxMath
namespace Go.Proofs.Ytgpajdbnefdgkaa.Fx
open Go.RowKit

theorem hold_c (n l m : Int) (w : World) :
    Calls Try.prog 32 #[.int .i64 n, .int .i64 l, .int .i64 m] w fun e w' => e = .returned (.int .i64 (holdI n l m)) ∧ w = w' := by
  unfold holdI
  by_cases h1 : m < n
  · by_cases h2 : m < l
    all_goals
      go_enter Try.func32, Try.ntmps32
      go_wp2
      go_ret
      exact ⟨rfl, rfl⟩
  · by_cases h2 : n < l
    all_goals
      go_enter Try.func32, Try.ntmps32
      go_wp2
      go_ret
      exact ⟨rfl, rfl⟩

theorem sat_c (n : Int) (w : World) :
    Calls Try.prog 22 #[.int .i64 n] w fun e w' => e = .returned (.int .i32 (satI n)) ∧ w = w' := by
  have hb := sat_bd n
  go_enter Try.func22, Try.ntmps22
  go_wp2_with (go_at_call 32; ((with_reducible refine (hold_c _ _ _ _).mono ?_); rintro e w' ⟨rfl, rfl⟩; rw [hold_sat]))
  go_ret
  exact ⟨rfl, rfl⟩

theorem rsat_c (n : Int) (w : World) :
    Calls Try.prog 10 #[.int .i64 n] w fun e w' => e = .returned (.int .i32 (satI n)) ∧ w = w' := by
  unfold satI
  by_cases h1 : 2147483647 < n
  · go_enter Try.func10, Try.ntmps10
    go_wp2
    go_ret
    exact ⟨rfl, rfl⟩
  · by_cases h2 : n < -2147483648
    all_goals
      go_enter Try.func10, Try.ntmps10
      go_wp2
      go_ret
      exact ⟨rfl, rfl⟩

theorem add_c (a b : Int) (ha : -2147483648 ≤ a ∧ a ≤ 2147483647) (hb : -2147483648 ≤ b ∧ b ≤ 2147483647) (w : World) :
    Calls Try.prog 9 #[.int .i32 a, .int .i32 b] w fun e w' => e = .returned (.int .i32 (satI (a + b))) ∧ w = w' := by
  go_enter Try.func9, Try.ntmps9
  go_wp2_with (go_at_call 22; ((with_reducible refine (sat_c _ _).mono ?_); rintro e w' ⟨rfl, rfl⟩))
  go_ret
  exact ⟨rfl, rfl⟩

theorem sub_c (a b : Int) (ha : -2147483648 ≤ a ∧ a ≤ 2147483647) (hb : -2147483648 ≤ b ∧ b ≤ 2147483647) (w : World) :
    Calls Try.prog 11 #[.int .i32 a, .int .i32 b] w fun e w' => e = .returned (.int .i32 (satI (a - b))) ∧ w = w' := by
  go_enter Try.func11, Try.ntmps11
  go_wp2_with (go_at_call 22; ((with_reducible refine (sat_c _ _).mono ?_); rintro e w' ⟨rfl, rfl⟩))
  go_ret
  exact ⟨rfl, rfl⟩

theorem mul_c (a b : Int) (ha : -2147483648 ≤ a ∧ a ≤ 2147483647) (hb : -2147483648 ≤ b ∧ b ≤ 2147483647) (w : World) :
    Calls Try.prog 12 #[.int .i32 a, .int .i32 b] w fun e w' => e = .returned (.int .i32 (satI (a * b / 65536))) ∧ w = w' := by
  have hm := mul32 a b ha hb
  go_enter Try.func12, Try.ntmps12
  go_wp2_with (go_at_call 22; ((with_reducible refine (sat_c _ _).mono ?_); rintro e w' ⟨rfl, rfl⟩))
  go_ret
  exact ⟨rfl, rfl⟩

theorem neg_c (a : Int) (ha : -2147483648 ≤ a ∧ a ≤ 2147483647) (w : World) :
    Calls Try.prog 16 #[.int .i32 a] w fun e w' => e = .returned (.int .i32 (satI (-a))) ∧ w = w' := by
  go_enter Try.func16, Try.ntmps16
  go_wp2_with (go_at_call 22; ((with_reducible refine (sat_c _ _).mono ?_); rintro e w' ⟨rfl, rfl⟩))
  go_ret
  exact ⟨rfl, rfl⟩

theorem abs_less (a : Int) (ha : -2147483648 ≤ a ∧ a ≤ 2147483647) (w : World) (h : a < 0) :
    Calls Try.prog 17 #[.int .i32 a] w fun e w' => e = .returned (.int .i32 (satI (-a))) ∧ w = w' := by
  go_enter Try.func17, Try.ntmps17
  go_wp2_with (go_at_call 16; ((with_reducible refine (neg_c _ ha _).mono ?_); rintro e w' ⟨rfl, rfl⟩))
  go_ret
  exact ⟨rfl, rfl⟩

theorem abs_more (a : Int) (ha : -2147483648 ≤ a ∧ a ≤ 2147483647) (w : World) (h : 0 ≤ a) :
    Calls Try.prog 17 #[.int .i32 a] w fun e w' => e = .returned (.int .i32 (satI a)) ∧ w = w' := by
  rw [sat_id a ha]
  go_enter Try.func17, Try.ntmps17
  go_wp2_with (fail)
  go_ret
  exact ⟨rfl, rfl⟩

theorem floor_c (a : Int) (ha : -2147483648 ≤ a ∧ a ≤ 2147483647) (w : World) :
    Calls Try.prog 18 #[.int .i32 a] w fun e w' => e = .returned (.int .i64 (a / 65536)) ∧ w = w' := by
  go_enter Try.func18, Try.ntmps18
  go_wp2
  go_ret
  exact ⟨rfl, rfl⟩

theorem of_c (n : Int) (w : World) :
    Calls Try.prog 20 #[.int .i64 n] w fun e w' => e = .returned (.int .i32 (satI (holdI n (-2147483648) 2147483647 * 65536))) ∧ w = w' := by
  have hb := hold_in n (-2147483648) 2147483647 (by omega)
  go_enter Try.func20, Try.ntmps20
  go_wp2_with (first
    | (go_at_call 32; ((with_reducible refine (hold_c _ _ _ _).mono ?_); rintro e w' ⟨rfl, rfl⟩))
    | (go_at_call 22; ((with_reducible refine (sat_c _ _).mono ?_); rintro e w' ⟨rfl, rfl⟩)))
  go_ret
  exact ⟨rfl, rfl⟩

theorem rof_c (n : Int) (w : World) :
    Calls Try.prog 21 #[.int .i64 n] w fun e w' => e = .returned (.int .i32 (satI (holdI n (-2147483648) 2147483647 * 65536))) ∧ w = w' := by
  rw [of_of]
  by_cases h1 : 32767 < n
  · go_enter Try.func21, Try.ntmps21
    go_wp2
    go_ret
    exact ⟨rfl, rfl⟩
  · by_cases h2 : n < -32768
    all_goals
      go_enter Try.func21, Try.ntmps21
      go_wp2
      go_ret
      exact ⟨rfl, rfl⟩

theorem clamp_c (a l m : Int) (ha : -2147483648 ≤ a ∧ a ≤ 2147483647) (hl : -2147483648 ≤ l ∧ l ≤ 2147483647) (hm : -2147483648 ≤ m ∧ m ≤ 2147483647) (w : World) :
    Calls Try.prog 23 #[.int .i32 a, .int .i32 l, .int .i32 m] w fun e w' => e = .returned (.int .i32 (holdI a l m)) ∧ w = w' := by
  have hb := hold_bd a l m _ _ ha hl hm
  go_enter Try.func23, Try.ntmps23
  go_wp2_with (go_at_call 32; ((with_reducible refine (hold_c _ _ _ _).mono ?_); rintro e w' ⟨rfl, rfl⟩))
  go_ret
  exact ⟨rfl, rfl⟩

theorem divDown_c (a b : Int) (ha : -4611686018427387904 ≤ a ∧ a ≤ 4611686018427387904) (h0 : b ≠ 0) (w : World) :
    Calls Try.prog 31 #[.int .i64 a, .int .i64 b] w fun e w' => e = .returned (.int .i64 (downI a b)) ∧ w = w' := by
  by_cases h : a.tmod b = 0
  · rw [← down_same a b h0 ha h]
    go_enter Try.func31, Try.ntmps31
    go_wp2
    go_ret
    exact ⟨rfl, rfl⟩
  · by_cases k : (!decide (a < 0) == decide (b < 0)) = true
    · rw [← down_less a b h0 ha h k]
      have h' : (a.tmod b != 0) = true := by simpa using h
      go_enter Try.func31, Try.ntmps31
      go_wp2
      go_ret
      exact ⟨rfl, rfl⟩
    · have k' : (!decide (a < 0) == decide (b < 0)) = false := by simpa using k
      rw [← down_alike a b h0 ha k']
      have h' : (a.tmod b != 0) = true := by simpa using h
      clear k
      go_enter Try.func31, Try.ntmps31
      go_wp2
      go_ret
      exact ⟨rfl, rfl⟩

theorem rfloor_c (a b : Int) (ha : -4611686018427387904 ≤ a ∧ a ≤ 4611686018427387904) (hb : 0 < b) (hb' : b ≤ 2147483648) (w : World) :
    Calls Try.prog 19 #[.int .i64 a, .int .i64 b] w fun e w' => e = .returned (.int .i64 (a / b)) ∧ w = w' := by
  have hm := tmod_bd a b hb
  have hd := ediv_bd a b _ hb (by omega) ha
  by_cases h : a.tmod b < 0
  · rw [← floor_less a b hb h] at hd ⊢
    go_enter Try.func19, Try.ntmps19
    go_wp2
    go_ret
    exact ⟨rfl, rfl⟩
  · rw [← floor_same a b hb h] at hd ⊢
    go_enter Try.func19, Try.ntmps19
    go_wp2
    go_ret
    exact ⟨rfl, rfl⟩

theorem endOf_c (a : Int) (w : World) :
    Calls Try.prog 30 #[.int .i32 a] w fun e w' => e = .returned (.int .i32 (endI a)) ∧ w = w' := by
  unfold endI
  by_cases h1 : 0 < a
  · go_enter Try.func30, Try.ntmps30
    go_wp2
    go_ret
    exact ⟨rfl, rfl⟩
  · by_cases h2 : a < 0
    all_goals
      go_enter Try.func30, Try.ntmps30
      go_wp2
      go_ret
      exact ⟨rfl, rfl⟩

theorem div_c (a b : Int) (ha : -2147483648 ≤ a ∧ a ≤ 2147483647) (hb : -2147483648 ≤ b ∧ b ≤ 2147483647) (w : World) :
    Calls Try.prog 14 #[.int .i32 a, .int .i32 b] w fun e w' => e = .returned (.int .i32 (divI a b)) ∧ w = w' := by
  by_cases h : b = 0
  · subst h
    unfold divI
    rw [if_pos rfl]
    go_enter Try.func14, Try.ntmps14
    go_wp2_with (go_at_call 30; ((with_reducible refine (endOf_c _ _).mono ?_); rintro e w' ⟨rfl, rfl⟩))
    go_ret
    exact ⟨rfl, rfl⟩
  · unfold divI
    rw [if_neg h]
    go_enter Try.func14, Try.ntmps14
    go_wp2_with (first
      | (go_at_call 31; ((with_reducible refine (divDown_c _ _ (by omega) h _).mono ?_); rintro e w' ⟨rfl, rfl⟩))
      | (go_at_call 22; ((with_reducible refine (sat_c _ _).mono ?_); rintro e w' ⟨rfl, rfl⟩)))
    go_ret
    exact ⟨rfl, rfl⟩

theorem rdiv_c (a b : Int) (ha : -2147483648 ≤ a ∧ a ≤ 2147483647) (hb : -2147483648 ≤ b ∧ b ≤ 2147483647) (w : World) :
    Calls Try.prog 15 #[.int .i32 a, .int .i32 b] w fun e w' => e = .returned (.int .i32 (divI a b)) ∧ w = w' := by
  unfold divI
  by_cases h : b = 0
  · subst h
    rw [if_pos rfl]
    unfold endI
    by_cases h1 : 0 < a
    · go_enter Try.func15, Try.ntmps15
      go_wp2
      go_ret
      exact ⟨rfl, rfl⟩
    · by_cases h2 : a < 0
      all_goals
        go_enter Try.func15, Try.ntmps15
        go_wp2
        go_ret
        exact ⟨rfl, rfl⟩
  · rw [if_neg h]
    unfold downI
    by_cases hp : 0 < b
    · rw [if_pos hp]
      go_enter Try.func15, Try.ntmps15
      go_wp2_with (first
        | (go_at_call 19; ((with_reducible refine (rfloor_c _ _ (by omega) hp (by omega) _).mono ?_); rintro e w' ⟨rfl, rfl⟩))
        | (go_at_call 10; ((with_reducible refine (rsat_c _ _).mono ?_); rintro e w' ⟨rfl, rfl⟩)))
      go_ret
      exact ⟨rfl, rfl⟩
    · rw [if_neg hp, ← Int.neg_mul]
      go_enter Try.func15, Try.ntmps15
      go_wp2_with (first
        | (go_at_call 19; ((with_reducible refine (rfloor_c _ _ (by omega) (by omega) (by omega) _).mono ?_); rintro e w' ⟨rfl, rfl⟩))
        | (go_at_call 10; ((with_reducible refine (rsat_c _ _).mono ?_); rintro e w' ⟨rfl, rfl⟩)))
      go_ret
      exact ⟨by simp, rfl⟩

theorem rmul_c (a b : Int) (ha : -2147483648 ≤ a ∧ a ≤ 2147483647) (hb : -2147483648 ≤ b ∧ b ≤ 2147483647) (w : World) :
    Calls Try.prog 13 #[.int .i32 a, .int .i32 b] w fun e w' => e = .returned (.int .i32 (satI (a * b / 65536))) ∧ w = w' := by
  have hm := mul32 a b ha hb
  go_enter Try.func13, Try.ntmps13
  go_wp2_with (first
    | (go_at_call 19; ((with_reducible refine (rfloor_c _ _ hm (by omega) (by omega) _).mono ?_); rintro e w' ⟨rfl, rfl⟩))
    | (go_at_call 10; ((with_reducible refine (rsat_c _ _).mono ?_); rintro e w' ⟨rfl, rfl⟩)))
  go_ret
  exact ⟨rfl, rfl⟩

theorem lerp_ok (a b n k : Int) (ha : -2147483648 ≤ a ∧ a ≤ 2147483647) (hb : -2147483648 ≤ b ∧ b ≤ 2147483647) (hk : 1 ≤ k) (hk' : k ≤ 65536) (h0 : 0 ≤ n) (h1 : n ≤ k) (w : World) :
    Calls Try.prog 24 #[.int .i32 a, .int .i32 b, .int .i64 n, .int .i64 k] w fun e w' => e = .returned (.tuple #[.int .i32 (lerpI a b n k), .int .i64 0]) ∧ w = w' := by
  have hw := lerp_way a b n k ha hb hk' h0 h1
  have hl := lerp_bd a b n k ha hb hk h0 h1
  have e1 := sat_id _ hl
  rw [← e1]
  clear e1
  unfold lerpI at hl ⊢
  have hd := down_bd ((b - a) * n) k _ (by omega) (by omega) hw
  have hdn : downI ((b - a) * n) k = (b - a) * n / k := by unfold downI; rw [if_pos (by omega)]
  rw [← hdn] at hl ⊢
  clear hdn
  go_enter Try.func24, Try.ntmps24
  go_wp2_with (first
    | (go_at_call 31; ((with_reducible refine (divDown_c _ _ (by omega) (by omega) _).mono ?_); rintro e w' ⟨rfl, rfl⟩))
    | (go_at_call 22; ((with_reducible refine (sat_c _ _).mono ?_); rintro e w' ⟨rfl, rfl⟩)))
  go_ret2
  exact ⟨rfl, rfl⟩

theorem lerp_err (a b n k : Int) (h : k < 1 ∨ 65536 < k ∨ n < 0 ∨ k < n) (w : World) :
    Calls Try.prog 24 #[.int .i32 a, .int .i32 b, .int .i64 n, .int .i64 k] w fun e w' => e = .returned (.tuple #[.int .i32 0, .int .i64 1]) ∧ w = w' := by
  by_cases h1 : k < 1
  · clear h
    go_enter Try.func24, Try.ntmps24
    go_wp2_with (fail)
    go_ret2
    exact ⟨rfl, rfl⟩
  · by_cases h2 : 65536 < k
    · clear h
      go_enter Try.func24, Try.ntmps24
      go_wp2_with (fail)
      go_ret2
      exact ⟨rfl, rfl⟩
    · by_cases h3 : n < 0
      · clear h
        go_enter Try.func24, Try.ntmps24
        go_wp2_with (fail)
        go_ret2
        exact ⟨rfl, rfl⟩
      · have h4 : k < n := by omega
        clear h
        go_enter Try.func24, Try.ntmps24
        go_wp2_with (fail)
        go_ret2
        exact ⟨rfl, rfl⟩

theorem rlerp_c (a b n k : Int) (ha : -2147483648 ≤ a ∧ a ≤ 2147483647) (hb : -2147483648 ≤ b ∧ b ≤ 2147483647) (hk : 1 ≤ k) (hk' : k ≤ 65536) (h0 : 0 ≤ n) (h1 : n ≤ k) (w : World) :
    Calls Try.prog 25 #[.int .i32 a, .int .i32 b, .int .i64 n, .int .i64 k] w fun e w' => e = .returned (.int .i32 (lerpI a b n k)) ∧ w = w' := by
  have hw := lerp_way a b n k ha hb hk' h0 h1
  have hl := lerp_bd a b n k ha hb hk h0 h1
  have e1 := sat_id _ hl
  rw [← e1]
  clear e1
  unfold lerpI at hl ⊢
  have hd := ediv_bd ((b - a) * n) k _ (by omega) (by omega) hw
  go_enter Try.func25, Try.ntmps25
  go_wp2_with (first
    | (go_at_call 19; ((with_reducible refine (rfloor_c _ _ (by omega) (by omega) (by omega) _).mono ?_); rintro e w' ⟨rfl, rfl⟩))
    | (go_at_call 10; ((with_reducible refine (rsat_c _ _).mono ?_); rintro e w' ⟨rfl, rfl⟩)))
  go_ret
  exact ⟨rfl, rfl⟩

/-- n as loud as g says. -/
def scaleI (n g : Int) : Int := holdI n (-2147483648) 2147483648 * holdI g (-2147483648) 2147483648 / 32768
theorem scale_bd (n g : Int) : -4611686018427387904 ≤ holdI n (-2147483648) 2147483648 * holdI g (-2147483648) 2147483648 ∧ holdI n (-2147483648) 2147483648 * holdI g (-2147483648) 2147483648 ≤ 4611686018427387904 := by
  have h1 := hold_in n (-2147483648) 2147483648 (by omega)
  have h2 := hold_in g (-2147483648) 2147483648 (by omega)
  have := mul_bd _ _ 2147483648 2147483648 h1 h2
  omega

theorem scale_c (n g : Int) (w : World) :
    Calls Try.prog 26 #[.int .i64 n, .int .i64 g] w fun e w' => e = .returned (.int .i64 (scaleI n g)) ∧ w = w' := by
  have hb := scale_bd n g
  unfold scaleI
  go_enter Try.func26, Try.ntmps26
  go_wp2_with (go_at_call 32; ((with_reducible refine (hold_c _ _ _ _).mono ?_); rintro e w' ⟨rfl, rfl⟩))
  go_ret
  exact ⟨rfl, rfl⟩

theorem pcm_c (n : Int) (w : World) :
    Calls Try.prog 28 #[.int .i64 n] w fun e w' => e = .returned (.int .i64 (holdI n (-32768) 32767)) ∧ w = w' := by
  go_enter Try.func28, Try.ntmps28
  go_wp2_with (go_at_call 32; ((with_reducible refine (hold_c _ _ _ _).mono ?_); rintro e w' ⟨rfl, rfl⟩))
  go_ret
  exact ⟨rfl, rfl⟩

theorem between_c (n l m : Int) (h : l ≤ m) (w : World) :
    Calls Try.prog 29 #[.int .i64 n, .int .i64 l, .int .i64 m] w fun e w' => e = .returned (.int .i64 (holdI n l m)) ∧ w = w' := by
  rw [← hold_between n l m h]
  by_cases h1 : n < l
  · go_enter Try.func29, Try.ntmps29
    go_wp2
    go_ret
    exact ⟨rfl, rfl⟩
  · by_cases h2 : m < n
    all_goals
      go_enter Try.func29, Try.ntmps29
      go_wp2
      go_ret
      exact ⟨rfl, rfl⟩

theorem rscale_c (n g : Int) (w : World) :
    Calls Try.prog 27 #[.int .i64 n, .int .i64 g] w fun e w' => e = .returned (.int .i64 (scaleI n g)) ∧ w = w' := by
  have hb := scale_bd n g
  unfold scaleI
  go_enter Try.func27, Try.ntmps27
  go_wp2_with (first
    | (go_at_call 29; ((with_reducible refine (between_c _ _ _ (by omega) _).mono ?_); rintro e w' ⟨rfl, rfl⟩))
    | (go_at_call 19; ((with_reducible refine (rfloor_c _ _ hb (by omega) (by omega) _).mono ?_); rintro e w' ⟨rfl, rfl⟩)))
  go_ret
  exact ⟨rfl, rfl⟩

theorem awake_c (w : World) :
    Calls Try.prog 8 #[] w fun e w' => e = .returned (.bool true) ∧ w = w' := by
  have e1 : lerpI 0 10 1 4 = 2 := by decide
  have e2 : satI (98304 * -32768 / 65536) = -49152 := by decide
  go_enter Try.func8, Try.ntmps8
  go_wp2_with (first
    | (go_at_call 24; ((with_reducible refine (lerp_ok _ _ _ _ (by omega) (by omega) (by omega) (by omega) (by omega) (by omega) _).mono ?_); rintro e w' ⟨rfl, rfl⟩; rw [e1]))
    | (go_at_call 12; ((with_reducible refine (mul_c _ _ (by omega) (by omega) _).mono ?_); rintro e w' ⟨rfl, rfl⟩; rw [e2])))
  go_ret
  exact ⟨rfl, rfl⟩

end Go.Proofs.Ytgpajdbnefdgkaa.Fx
