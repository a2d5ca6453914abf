/- The five statements of layer 1 (fixed), as walks: each law, called with any numbers of its parameters' kinds, returns true and leaves the memory as it was. -/
import Derived.Test.YtgpajdbnefdgkaaFxCalls
namespace Go.Proofs.Ytgpajdbnefdgkaa.Fx
open Go.RowKit

theorem adds_w (a b : Int) (ha : -2147483648 ≤ a ∧ a ≤ 2147483647) (hb : -2147483648 ≤ b ∧ b ≤ 2147483647) (w : World) :
    Calls Try.prog 3 #[.int .i32 a, .int .i32 b] w fun e w' => e = .returned (.bool true) ∧ w = w' := by
  go_enter Try.func3, Try.ntmps3
  go_wp2_with (first
    | (go_at_call 8; ((with_reducible refine (awake_c _).mono ?_); rintro e w' ⟨rfl, rfl⟩))
    | (go_at_call 9; ((with_reducible refine (add_c _ _ ha hb _).mono ?_); rintro e w' ⟨rfl, rfl⟩))
    | (go_at_call 11; ((with_reducible refine (sub_c _ _ ha hb _).mono ?_); rintro e w' ⟨rfl, rfl⟩))
    | (go_at_call 12; ((with_reducible refine (mul_c _ _ ha hb _).mono ?_); rintro e w' ⟨rfl, rfl⟩))
    | (go_at_call 14; ((with_reducible refine (div_c _ _ ha hb _).mono ?_); rintro e w' ⟨rfl, rfl⟩))
    | (go_at_call 10; ((with_reducible refine (rsat_c _ _).mono ?_); rintro e w' ⟨rfl, rfl⟩))
    | (go_at_call 13; ((with_reducible refine (rmul_c _ _ ha hb _).mono ?_); rintro e w' ⟨rfl, rfl⟩))
    | (go_at_call 15; ((with_reducible refine (rdiv_c _ _ ha hb _).mono ?_); rintro e w' ⟨rfl, rfl⟩)))
  go_ret
  exact ⟨rfl, rfl⟩

theorem loud_w (n g : Int) (w : World) :
    Calls Try.prog 6 #[.int .i64 n, .int .i64 g] w fun e w' => e = .returned (.bool true) ∧ w = w' := by
  go_enter Try.func6, Try.ntmps6
  go_wp2_with (first
    | (go_at_call 8; ((with_reducible refine (awake_c _).mono ?_); rintro e w' ⟨rfl, rfl⟩))
    | (go_at_call 26; ((with_reducible refine (scale_c _ _ _).mono ?_); rintro e w' ⟨rfl, rfl⟩))
    | (go_at_call 27; ((with_reducible refine (rscale_c _ _ _).mono ?_); rintro e w' ⟨rfl, rfl⟩))
    | (go_at_call 28; ((with_reducible refine (pcm_c _ _).mono ?_); rintro e w' ⟨rfl, rfl⟩))
    | (go_at_call 29; ((with_reducible refine (between_c _ _ _ (by omega) _).mono ?_); rintro e w' ⟨rfl, rfl⟩)))
  go_ret
  exact ⟨rfl, rfl⟩

theorem sat_over (n : Int) (h : 2147483647 < n) : satI n = 2147483647 := by unfold satI; rw [if_pos h]
theorem sat_under (n : Int) (h : n < -2147483648) : satI n = -2147483648 := by unfold satI; rw [if_neg (by omega), if_pos h]

theorem back_w (a b : Int) (ha : -2147483648 ≤ a ∧ a ≤ 2147483647) (hb : -2147483648 ≤ b ∧ b ≤ 2147483647) (w : World) :
    Calls Try.prog 7 #[.int .i32 a, .int .i32 b] w fun e w' => e = .returned (.bool true) ∧ w = w' := by
  by_cases h1 : 2147483647 < a + b
  · have e1 := sat_over _ h1
    go_enter Try.func7, Try.ntmps7
    go_wp2_with (first
      | (go_at_call 8; ((with_reducible refine (awake_c _).mono ?_); rintro e w' ⟨rfl, rfl⟩))
      | (go_at_call 9; ((with_reducible refine (add_c _ _ ha hb _).mono ?_); rintro e w' ⟨rfl, rfl⟩; rw [e1])))
    go_ret
    exact ⟨rfl, rfl⟩
  · by_cases h2 : a + b < -2147483648
    · have e1 := sat_under _ h2
      go_enter Try.func7, Try.ntmps7
      go_wp2_with (first
        | (go_at_call 8; ((with_reducible refine (awake_c _).mono ?_); rintro e w' ⟨rfl, rfl⟩))
        | (go_at_call 9; ((with_reducible refine (add_c _ _ ha hb _).mono ?_); rintro e w' ⟨rfl, rfl⟩; rw [e1])))
      go_ret
      exact ⟨by simp; omega, rfl⟩
    · have e1 := sat_id (a + b) (by omega)
      have e2 := sat_id (b + a) (by omega)
      have e3 : satI (a + b - b) = a := by rw [sat_id _ (by omega)]; omega
      have e4 : b + a = a + b := by omega
      have H1 := hid e1
      have H2 := hid e2
      have H3 := hid e3
      have H4 := hid e4
      clear e1 e2 e3 e4
      go_enter Try.func7, Try.ntmps7
      go_wp2_with (first
        | (go_at_call 8; ((with_reducible refine (awake_c _).mono ?_); rintro e w' ⟨rfl, rfl⟩))
        | (go_at_call 9; ((with_reducible refine (add_c _ _ (by omega) (by omega) _).mono ?_); rintro e w' ⟨rfl, rfl⟩; first | rw [H1.out] | rw [H2.out, H4.out]))
        | (go_at_call 11; ((with_reducible refine (sub_c _ _ (by omega) (by omega) _).mono ?_); rintro e w' ⟨rfl, rfl⟩; rw [H3.out])))
      go_ret
      exact ⟨rfl, rfl⟩

theorem hold_1 (a l t : Int) (h1 : t < a) (h2 : t < l) : holdI a l t = l := by unfold holdI; rw [if_pos h1, if_pos h2]
theorem hold_2 (a l t : Int) (h1 : t < a) (h2 : ¬ t < l) : holdI a l t = t := by unfold holdI; rw [if_pos h1, if_neg h2]
theorem hold_3 (a l t : Int) (h1 : ¬ t < a) (h2 : a < l) : holdI a l t = l := by unfold holdI; rw [if_neg h1, if_pos h2]
theorem hold_4 (a l t : Int) (h1 : ¬ t < a) (h2 : ¬ a < l) : holdI a l t = a := by unfold holdI; rw [if_neg h1, if_neg h2]

set_option maxHeartbeats 1000000 in
theorem one_w (a n m l t : Int) (ha : -2147483648 ≤ a ∧ a ≤ 2147483647) (hl : -2147483648 ≤ l ∧ l ≤ 2147483647) (ht : -2147483648 ≤ t ∧ t ≤ 2147483647) (w : World) :
    Calls Try.prog 4 #[.int .i32 a, .int .i64 n, .int .i64 m, .int .i32 l, .int .i32 t] w fun e w' => e = .returned (.bool true) ∧ w = w' := by
  have H1 := hid (one_times a ha)
  have c : (t < a ∧ t < l) ∨ (t < a ∧ ¬ t < l) ∨ (¬ t < a ∧ a < l) ∨ (¬ t < a ∧ ¬ a < l) := by omega
  rcases c with ⟨h1, h2⟩ | ⟨h1, h2⟩ | ⟨h1, h2⟩ | ⟨h1, h2⟩
  · have H2 := hid (hold_1 a l t h1 h2)
    rcases Int.lt_or_le a 0 with ha0 | ha0
    all_goals
      go_enter Try.func4, Try.ntmps4
      go_wp2_with (first
        | (go_at_call 8; ((with_reducible refine (awake_c _).mono ?_); rintro e w' ⟨rfl, rfl⟩))
        | (go_at_call 16; ((with_reducible refine (neg_c _ ha _).mono ?_); rintro e w' ⟨rfl, rfl⟩))
        | (go_at_call 10; ((with_reducible refine (rsat_c _ _).mono ?_); rintro e w' ⟨rfl, rfl⟩))
        | (go_at_call 17; ((first | with_reducible refine (abs_less _ ha _ ha0).mono ?_ | with_reducible refine (abs_more _ ha _ ha0).mono ?_); rintro e w' ⟨rfl, rfl⟩))
        | (go_at_call 18; ((with_reducible refine (floor_c _ ha _).mono ?_); rintro e w' ⟨rfl, rfl⟩))
        | (go_at_call 19; ((with_reducible refine (rfloor_c _ _ (by omega) (by omega) (by omega) _).mono ?_); rintro e w' ⟨rfl, rfl⟩))
        | (go_at_call 20; ((with_reducible refine (of_c _ _).mono ?_); rintro e w' ⟨rfl, rfl⟩))
        | (go_at_call 21; ((with_reducible refine (rof_c _ _).mono ?_); rintro e w' ⟨rfl, rfl⟩))
        | (go_at_call 22; ((with_reducible refine (sat_c _ _).mono ?_); rintro e w' ⟨rfl, rfl⟩))
        | (go_at_call 23; ((with_reducible refine (clamp_c _ _ _ ha hl ht _).mono ?_); rintro e w' ⟨rfl, rfl⟩; rw [H2.out]))
        | (go_at_call 12; ((with_reducible refine (mul_c _ _ ha (by omega) _).mono ?_); rintro e w' ⟨rfl, rfl⟩; rw [H1.out])))
      go_ret
      exact ⟨rfl, rfl⟩
  · have H2 := hid (hold_2 a l t h1 h2)
    rcases Int.lt_or_le a 0 with ha0 | ha0
    all_goals
      go_enter Try.func4, Try.ntmps4
      go_wp2_with (first
        | (go_at_call 8; ((with_reducible refine (awake_c _).mono ?_); rintro e w' ⟨rfl, rfl⟩))
        | (go_at_call 16; ((with_reducible refine (neg_c _ ha _).mono ?_); rintro e w' ⟨rfl, rfl⟩))
        | (go_at_call 10; ((with_reducible refine (rsat_c _ _).mono ?_); rintro e w' ⟨rfl, rfl⟩))
        | (go_at_call 17; ((first | with_reducible refine (abs_less _ ha _ ha0).mono ?_ | with_reducible refine (abs_more _ ha _ ha0).mono ?_); rintro e w' ⟨rfl, rfl⟩))
        | (go_at_call 18; ((with_reducible refine (floor_c _ ha _).mono ?_); rintro e w' ⟨rfl, rfl⟩))
        | (go_at_call 19; ((with_reducible refine (rfloor_c _ _ (by omega) (by omega) (by omega) _).mono ?_); rintro e w' ⟨rfl, rfl⟩))
        | (go_at_call 20; ((with_reducible refine (of_c _ _).mono ?_); rintro e w' ⟨rfl, rfl⟩))
        | (go_at_call 21; ((with_reducible refine (rof_c _ _).mono ?_); rintro e w' ⟨rfl, rfl⟩))
        | (go_at_call 22; ((with_reducible refine (sat_c _ _).mono ?_); rintro e w' ⟨rfl, rfl⟩))
        | (go_at_call 23; ((with_reducible refine (clamp_c _ _ _ ha hl ht _).mono ?_); rintro e w' ⟨rfl, rfl⟩; rw [H2.out]))
        | (go_at_call 12; ((with_reducible refine (mul_c _ _ ha (by omega) _).mono ?_); rintro e w' ⟨rfl, rfl⟩; rw [H1.out])))
      go_ret
      exact ⟨rfl, rfl⟩
  · have H2 := hid (hold_3 a l t h1 h2)
    rcases Int.lt_or_le a 0 with ha0 | ha0
    all_goals
      go_enter Try.func4, Try.ntmps4
      go_wp2_with (first
        | (go_at_call 8; ((with_reducible refine (awake_c _).mono ?_); rintro e w' ⟨rfl, rfl⟩))
        | (go_at_call 16; ((with_reducible refine (neg_c _ ha _).mono ?_); rintro e w' ⟨rfl, rfl⟩))
        | (go_at_call 10; ((with_reducible refine (rsat_c _ _).mono ?_); rintro e w' ⟨rfl, rfl⟩))
        | (go_at_call 17; ((first | with_reducible refine (abs_less _ ha _ ha0).mono ?_ | with_reducible refine (abs_more _ ha _ ha0).mono ?_); rintro e w' ⟨rfl, rfl⟩))
        | (go_at_call 18; ((with_reducible refine (floor_c _ ha _).mono ?_); rintro e w' ⟨rfl, rfl⟩))
        | (go_at_call 19; ((with_reducible refine (rfloor_c _ _ (by omega) (by omega) (by omega) _).mono ?_); rintro e w' ⟨rfl, rfl⟩))
        | (go_at_call 20; ((with_reducible refine (of_c _ _).mono ?_); rintro e w' ⟨rfl, rfl⟩))
        | (go_at_call 21; ((with_reducible refine (rof_c _ _).mono ?_); rintro e w' ⟨rfl, rfl⟩))
        | (go_at_call 22; ((with_reducible refine (sat_c _ _).mono ?_); rintro e w' ⟨rfl, rfl⟩))
        | (go_at_call 23; ((with_reducible refine (clamp_c _ _ _ ha hl ht _).mono ?_); rintro e w' ⟨rfl, rfl⟩; rw [H2.out]))
        | (go_at_call 12; ((with_reducible refine (mul_c _ _ ha (by omega) _).mono ?_); rintro e w' ⟨rfl, rfl⟩; rw [H1.out])))
      go_ret
      exact ⟨rfl, rfl⟩
  · have H2 := hid (hold_4 a l t h1 h2)
    rcases Int.lt_or_le a 0 with ha0 | ha0
    all_goals
      go_enter Try.func4, Try.ntmps4
      go_wp2_with (first
        | (go_at_call 8; ((with_reducible refine (awake_c _).mono ?_); rintro e w' ⟨rfl, rfl⟩))
        | (go_at_call 16; ((with_reducible refine (neg_c _ ha _).mono ?_); rintro e w' ⟨rfl, rfl⟩))
        | (go_at_call 10; ((with_reducible refine (rsat_c _ _).mono ?_); rintro e w' ⟨rfl, rfl⟩))
        | (go_at_call 17; ((first | with_reducible refine (abs_less _ ha _ ha0).mono ?_ | with_reducible refine (abs_more _ ha _ ha0).mono ?_); rintro e w' ⟨rfl, rfl⟩))
        | (go_at_call 18; ((with_reducible refine (floor_c _ ha _).mono ?_); rintro e w' ⟨rfl, rfl⟩))
        | (go_at_call 19; ((with_reducible refine (rfloor_c _ _ (by omega) (by omega) (by omega) _).mono ?_); rintro e w' ⟨rfl, rfl⟩))
        | (go_at_call 20; ((with_reducible refine (of_c _ _).mono ?_); rintro e w' ⟨rfl, rfl⟩))
        | (go_at_call 21; ((with_reducible refine (rof_c _ _).mono ?_); rintro e w' ⟨rfl, rfl⟩))
        | (go_at_call 22; ((with_reducible refine (sat_c _ _).mono ?_); rintro e w' ⟨rfl, rfl⟩))
        | (go_at_call 23; ((with_reducible refine (clamp_c _ _ _ ha hl ht _).mono ?_); rintro e w' ⟨rfl, rfl⟩; rw [H2.out]))
        | (go_at_call 12; ((with_reducible refine (mul_c _ _ ha (by omega) _).mono ?_); rintro e w' ⟨rfl, rfl⟩; rw [H1.out])))
      go_ret
      exact ⟨rfl, rfl⟩

theorem lerps_err_w (a b n m k : Int) (h : k < 1 ∨ 65536 < k ∨ n < 0 ∨ k < n) (w : World) :
    Calls Try.prog 5 #[.int .i32 a, .int .i32 b, .int .i64 n, .int .i64 m, .int .i64 k] w fun e w' => e = .returned (.bool true) ∧ w = w' := by
  have H := hid h
  clear h
  by_cases h1 : k < 1
  · go_enter Try.func5, Try.ntmps5
    go_wp2_with (first
      | (go_at_call 8; ((with_reducible refine (awake_c _).mono ?_); rintro e w' ⟨rfl, rfl⟩))
      | (go_at_call 24; ((with_reducible refine (lerp_err _ _ _ _ H.out _).mono ?_); rintro e w' ⟨rfl, rfl⟩)))
    go_ret
    exact ⟨rfl, rfl⟩
  · by_cases h2 : 65536 < k
    · go_enter Try.func5, Try.ntmps5
      go_wp2_with (first
        | (go_at_call 8; ((with_reducible refine (awake_c _).mono ?_); rintro e w' ⟨rfl, rfl⟩))
        | (go_at_call 24; ((with_reducible refine (lerp_err _ _ _ _ H.out _).mono ?_); rintro e w' ⟨rfl, rfl⟩)))
      go_ret
      exact ⟨rfl, rfl⟩
    · by_cases h3 : n < 0
      · go_enter Try.func5, Try.ntmps5
        go_wp2_with (first
          | (go_at_call 8; ((with_reducible refine (awake_c _).mono ?_); rintro e w' ⟨rfl, rfl⟩))
          | (go_at_call 24; ((with_reducible refine (lerp_err _ _ _ _ H.out _).mono ?_); rintro e w' ⟨rfl, rfl⟩)))
        go_ret
        exact ⟨rfl, rfl⟩
      · have h4 : k < n := by have := H.out; omega
        go_enter Try.func5, Try.ntmps5
        go_wp2_with (first
          | (go_at_call 8; ((with_reducible refine (awake_c _).mono ?_); rintro e w' ⟨rfl, rfl⟩))
          | (go_at_call 24; ((with_reducible refine (lerp_err _ _ _ _ H.out _).mono ?_); rintro e w' ⟨rfl, rfl⟩)))
        go_ret
        exact ⟨rfl, rfl⟩

set_option maxHeartbeats 1000000 in
theorem lerps_ok_w (a b n m k : Int) (ha : -2147483648 ≤ a ∧ a ≤ 2147483647) (hb : -2147483648 ≤ b ∧ b ≤ 2147483647) (hk : 1 ≤ k) (hk' : k ≤ 65536) (h0 : 0 ≤ n) (h1 : n ≤ k) (w : World) :
    Calls Try.prog 5 #[.int .i32 a, .int .i32 b, .int .i64 n, .int .i64 m, .int .i64 k] w fun e w' => e = .returned (.bool true) ∧ w = w' := by
  have H1 := hid (lerp_first a b k)
  have H2 := hid (lerp_last a b k hk)
  by_cases c1 : m < 0
  · go_enter Try.func5, Try.ntmps5
    go_wp2_with (first
      | (go_at_call 8; ((with_reducible refine (awake_c _).mono ?_); rintro e w' ⟨rfl, rfl⟩))
      | (go_at_call 25; ((with_reducible refine (rlerp_c _ _ _ _ ha hb hk hk' h0 h1 _).mono ?_); rintro e w' ⟨rfl, rfl⟩))
      | (go_at_call 24; ((with_reducible refine (lerp_ok a b n k ha hb hk hk' h0 h1 _).mono ?_); rintro e w' ⟨rfl, rfl⟩))
      | (go_at_call 24; ((with_reducible refine (lerp_ok a b 0 k ha hb hk hk' (by omega) (by omega) _).mono ?_); rintro e w' ⟨rfl, rfl⟩; rw [H1.out]))
      | (go_at_call 24; ((with_reducible refine (lerp_ok a b k k ha hb hk hk' (by omega) (by omega) _).mono ?_); rintro e w' ⟨rfl, rfl⟩; rw [H2.out]))
      | (go_at_call 24; ((with_reducible refine (lerp_err a b m k (by omega) _).mono ?_); rintro e w' ⟨rfl, rfl⟩)))
    all_goals
      go_ret
      exact ⟨rfl, rfl⟩
  · by_cases c2 : k < m
    · go_enter Try.func5, Try.ntmps5
      go_wp2_with (first
        | (go_at_call 8; ((with_reducible refine (awake_c _).mono ?_); rintro e w' ⟨rfl, rfl⟩))
        | (go_at_call 25; ((with_reducible refine (rlerp_c _ _ _ _ ha hb hk hk' h0 h1 _).mono ?_); rintro e w' ⟨rfl, rfl⟩))
        | (go_at_call 24; ((with_reducible refine (lerp_ok a b n k ha hb hk hk' h0 h1 _).mono ?_); rintro e w' ⟨rfl, rfl⟩))
        | (go_at_call 24; ((with_reducible refine (lerp_ok a b 0 k ha hb hk hk' (by omega) (by omega) _).mono ?_); rintro e w' ⟨rfl, rfl⟩; rw [H1.out]))
        | (go_at_call 24; ((with_reducible refine (lerp_ok a b k k ha hb hk hk' (by omega) (by omega) _).mono ?_); rintro e w' ⟨rfl, rfl⟩; rw [H2.out]))
        | (go_at_call 24; ((with_reducible refine (lerp_err a b m k (by omega) _).mono ?_); rintro e w' ⟨rfl, rfl⟩)))
      all_goals
        go_ret
        exact ⟨rfl, rfl⟩
    · by_cases c3 : m < n
      · go_enter Try.func5, Try.ntmps5
        go_wp2_with (first
          | (go_at_call 8; ((with_reducible refine (awake_c _).mono ?_); rintro e w' ⟨rfl, rfl⟩))
          | (go_at_call 25; ((with_reducible refine (rlerp_c _ _ _ _ ha hb hk hk' h0 h1 _).mono ?_); rintro e w' ⟨rfl, rfl⟩))
          | (go_at_call 24; ((with_reducible refine (lerp_ok a b n k ha hb hk hk' h0 h1 _).mono ?_); rintro e w' ⟨rfl, rfl⟩))
          | (go_at_call 24; ((with_reducible refine (lerp_ok a b 0 k ha hb hk hk' (by omega) (by omega) _).mono ?_); rintro e w' ⟨rfl, rfl⟩; rw [H1.out]))
          | (go_at_call 24; ((with_reducible refine (lerp_ok a b k k ha hb hk hk' (by omega) (by omega) _).mono ?_); rintro e w' ⟨rfl, rfl⟩; rw [H2.out]))
          | (go_at_call 24; ((with_reducible refine (lerp_ok a b m k ha hb hk hk' (by omega) (by omega) _).mono ?_); rintro e w' ⟨rfl, rfl⟩)))
        all_goals
          go_ret
          exact ⟨by simp <;> omega, rfl⟩
      · by_cases c4 : a ≤ b
        · have o := lerp_up a b n m k c4 hk h0 (by omega) (by omega)
          go_enter Try.func5, Try.ntmps5
          go_wp2_with (first
            | (go_at_call 8; ((with_reducible refine (awake_c _).mono ?_); rintro e w' ⟨rfl, rfl⟩))
            | (go_at_call 25; ((with_reducible refine (rlerp_c _ _ _ _ ha hb hk hk' h0 h1 _).mono ?_); rintro e w' ⟨rfl, rfl⟩))
            | (go_at_call 24; ((with_reducible refine (lerp_ok a b n k ha hb hk hk' h0 h1 _).mono ?_); rintro e w' ⟨rfl, rfl⟩))
            | (go_at_call 24; ((with_reducible refine (lerp_ok a b 0 k ha hb hk hk' (by omega) (by omega) _).mono ?_); rintro e w' ⟨rfl, rfl⟩; rw [H1.out]))
            | (go_at_call 24; ((with_reducible refine (lerp_ok a b k k ha hb hk hk' (by omega) (by omega) _).mono ?_); rintro e w' ⟨rfl, rfl⟩; rw [H2.out]))
            | (go_at_call 24; ((with_reducible refine (lerp_ok a b m k ha hb hk hk' (by omega) (by omega) _).mono ?_); rintro e w' ⟨rfl, rfl⟩)))
          all_goals
            go_ret
            exact ⟨by simp <;> omega, rfl⟩
        · have o := lerp_dn a b n m k (by omega) hk h0 (by omega) (by omega)
          go_enter Try.func5, Try.ntmps5
          go_wp2_with (first
            | (go_at_call 8; ((with_reducible refine (awake_c _).mono ?_); rintro e w' ⟨rfl, rfl⟩))
            | (go_at_call 25; ((with_reducible refine (rlerp_c _ _ _ _ ha hb hk hk' h0 h1 _).mono ?_); rintro e w' ⟨rfl, rfl⟩))
            | (go_at_call 24; ((with_reducible refine (lerp_ok a b n k ha hb hk hk' h0 h1 _).mono ?_); rintro e w' ⟨rfl, rfl⟩))
            | (go_at_call 24; ((with_reducible refine (lerp_ok a b 0 k ha hb hk hk' (by omega) (by omega) _).mono ?_); rintro e w' ⟨rfl, rfl⟩; rw [H1.out]))
            | (go_at_call 24; ((with_reducible refine (lerp_ok a b k k ha hb hk hk' (by omega) (by omega) _).mono ?_); rintro e w' ⟨rfl, rfl⟩; rw [H2.out]))
            | (go_at_call 24; ((with_reducible refine (lerp_ok a b m k ha hb hk hk' (by omega) (by omega) _).mono ?_); rintro e w' ⟨rfl, rfl⟩)))
          all_goals
            go_ret
            exact ⟨by simp <;> omega, rfl⟩

theorem lerps_w (a b n m k : Int) (ha : -2147483648 ≤ a ∧ a ≤ 2147483647) (hb : -2147483648 ≤ b ∧ b ≤ 2147483647) (w : World) :
    Calls Try.prog 5 #[.int .i32 a, .int .i32 b, .int .i64 n, .int .i64 m, .int .i64 k] w fun e w' => e = .returned (.bool true) ∧ w = w' := by
  by_cases h : k < 1 ∨ 65536 < k ∨ n < 0 ∨ k < n
  · exact lerps_err_w a b n m k h w
  · exact lerps_ok_w a b n m k ha hb (by omega) (by omega) (by omega) (by omega) w

end Go.Proofs.Ytgpajdbnefdgkaa.Fx
