/- The four statements of layer 2 (trig), as walks: each law, called with any numbers of its parameters' kinds, returns true and leaves the memory as it was. -/
import Derived.Test.YthokggclpgdahaaTgCalls
namespace Go.Proofs.Ythokggclpgdahaa.Tg
open Go.RowKit Go.Proofs.Ythokggclpgdahaa.Fx

theorem awake_c (w : World) :
    Calls Try.prog 7 #[] w fun e w' => e = .returned (.bool true) ∧ w = w' := by
  have e1 : waveI 16384 = 65536 := by decide
  have e2 : rootI 24 = 4 := (root_eq 24 4 (by omega) (by omega) (by omega) (by omega) (by omega)).symm
  have H1 := hid e1
  have H2 := hid e2
  clear e1 e2
  go_enter Try.func7, Try.ntmps7
  go_wp2_with (first
    | (go_at_call 10; ((with_reducible refine (sin_c _ _).mono ?_); rintro e w' ⟨rfl, rfl⟩; rw [H1.out]))
    | (go_at_call 8; ((with_reducible refine (root_c _ (by omega) (by omega) _).mono ?_); rintro e w' ⟨rfl, rfl⟩; rw [H2.out])))
  go_ret
  exact ⟨rfl, rfl⟩

theorem roots_w (n : Int) (h0 : 0 ≤ n) (h1 : n < 18446744073709551616) (w : World) :
    Calls Try.prog 3 #[.int .u64 n] w fun e w' => e = .returned (.bool true) ∧ w = w' := by
  obtain ⟨r0, r1, r2, r3⟩ := root_is n h0 h1
  have hq := sq_nn (rootI n)
  by_cases c : rootI n < 4294967295
  · have hm := sq_nn (rootI n + 1)
    have hM := sq_le (rootI n + 1) 4294967295 (by omega) (by omega)
    go_enter Try.func3, Try.ntmps3
    go_wp2_with (first
      | (go_at_call 7; ((with_reducible refine (awake_c _).mono ?_); rintro e w' ⟨rfl, rfl⟩))
      | (go_at_call 9; ((with_reducible refine (rroot_c _ h0 h1 _).mono ?_); rintro e w' ⟨rfl, rfl⟩))
      | (go_at_call 8; ((with_reducible refine (root_c _ h0 h1 _).mono ?_); rintro e w' ⟨rfl, rfl⟩)))
    go_ret
    exact ⟨rfl, rfl⟩
  · go_enter Try.func3, Try.ntmps3
    go_wp2_with (first
      | (go_at_call 7; ((with_reducible refine (awake_c _).mono ?_); rintro e w' ⟨rfl, rfl⟩))
      | (go_at_call 9; ((with_reducible refine (rroot_c _ h0 h1 _).mono ?_); rintro e w' ⟨rfl, rfl⟩))
      | (go_at_call 8; ((with_reducible refine (root_c _ h0 h1 _).mono ?_); rintro e w' ⟨rfl, rfl⟩)))
    go_ret
    exact ⟨rfl, rfl⟩

theorem wave_tmod (a b : Int) : waveI (a.tmod 65536 + b) = waveI (a + b) := by
  have := Int.mul_tdiv_add_tmod a 65536
  apply wave_mod
  omega

theorem waves_w (a : Int) (w : World) :
    Calls Try.prog 4 #[.int .i64 a] w fun e w' => e = .returned (.bool true) ∧ w = w' := by
  have ht := tmod_bd a 65536 (by omega)
  by_cases h : 0 ≤ a
  · have H : Hid (waveI (a % 65536 + 16384) = waveI (a + 16384)) := hid (wave_mod _ _ (by omega))
    go_enter Try.func4, Try.ntmps4
    go_wp2_with (first
      | (go_at_call 7; ((with_reducible refine (awake_c _).mono ?_); rintro e w' ⟨rfl, rfl⟩))
      | (go_at_call 10; ((with_reducible refine (sin_c _ _).mono ?_); rintro e w' ⟨rfl, rfl⟩))
      | (go_at_call 12; ((with_reducible refine (cos_c _ _).mono ?_); rintro e w' ⟨rfl, rfl⟩))
      | (go_at_call 11; ((with_reducible refine (rsin_c _ _).mono ?_); rintro e w' ⟨rfl, rfl⟩; (try rw [H.out]))))
    go_ret
    exact ⟨rfl, rfl⟩
  · have H := hid (wave_tmod a 16384)
    go_enter Try.func4, Try.ntmps4
    go_wp2_with (first
      | (go_at_call 7; ((with_reducible refine (awake_c _).mono ?_); rintro e w' ⟨rfl, rfl⟩))
      | (go_at_call 10; ((with_reducible refine (sin_c _ _).mono ?_); rintro e w' ⟨rfl, rfl⟩))
      | (go_at_call 12; ((with_reducible refine (cos_c _ _).mono ?_); rintro e w' ⟨rfl, rfl⟩))
      | (go_at_call 11; ((with_reducible refine (rsin_c _ _).mono ?_); rintro e w' ⟨rfl, rfl⟩; (try rw [H.out]))))
    go_ret
    exact ⟨rfl, rfl⟩

theorem mirrors_w (a : Int) (w : World) :
    Calls Try.prog 5 #[.int .i64 a] w fun e w' => e = .returned (.bool true) ∧ w = w' := by
  have ht := tmod_bd a 65536 (by omega)
  by_cases h : 0 ≤ a
  · have hb := wave_bd (a % 65536)
    have H1 := hid (wave_half (a % 65536))
    have H2 := hid (wave_mirror (a % 65536))
    have H3 := hid (wave_neg (a % 65536))
    go_enter Try.func5, Try.ntmps5
    go_wp2_with (first
      | (go_at_call 7; ((with_reducible refine (awake_c _).mono ?_); rintro e w' ⟨rfl, rfl⟩))
      | (go_at_call 10; ((with_reducible refine (sin_c _ _).mono ?_); rintro e w' ⟨rfl, rfl⟩; (first | rw [H1.out] | rw [H2.out] | rw [H3.out] | skip))))
    go_ret
    exact ⟨rfl, rfl⟩
  · have hb := wave_bd (a.tmod 65536)
    have H1 := hid (wave_half (a.tmod 65536))
    have H2 := hid (wave_mirror (a.tmod 65536))
    have H3 := hid (wave_neg (a.tmod 65536))
    go_enter Try.func5, Try.ntmps5
    go_wp2_with (first
      | (go_at_call 7; ((with_reducible refine (awake_c _).mono ?_); rintro e w' ⟨rfl, rfl⟩))
      | (go_at_call 10; ((with_reducible refine (sin_c _ _).mono ?_); rintro e w' ⟨rfl, rfl⟩; (first | rw [H1.out] | rw [H2.out] | rw [H3.out] | skip))))
    go_ret
    exact ⟨rfl, rfl⟩

theorem near_no (x y r : Int) (h : ¬ 0 ≤ r) : nearB x y r = false := by unfold nearB; simp [h]
theorem near_is (x y r : Int) (h : 0 ≤ r) : nearB x y r = decide (sqsI x y ≤ sqsI r 0) := by rw [Bool.eq_iff_iff]; simp [nearB, h, sqsI]; exact decide_eq_true_iff

theorem lengths_w (x y s r : Int) (hx : -2147483648 ≤ x ∧ x ≤ 2147483647) (hy : -2147483648 ≤ y ∧ y ≤ 2147483647) (hs : -2147483648 ≤ s ∧ s ≤ 2147483647) (hr : -2147483648 ≤ r ∧ r ≤ 2147483647) (w : World) :
    Calls Try.prog 6 #[.int .i32 x, .int .i32 y, .int .i32 s, .int .i32 r] w fun e w' => e = .returned (.bool true) ∧ w = w' := by
  by_cases h : 0 ≤ r
  · have H := hid (near_is x y r h)
    go_enter Try.func6, Try.ntmps6
    go_wp2_with (first
      | (go_at_call 7; ((with_reducible refine (awake_c _).mono ?_); rintro e w' ⟨rfl, rfl⟩))
      | (go_at_call 13; ((with_reducible refine (toward_c _ _ _ hx hy hs _).mono ?_); rintro e w' ⟨rfl, rfl⟩))
      | (go_at_call 14; ((with_reducible refine (rtoward_c _ _ _ hx hy hs _).mono ?_); rintro e w' ⟨rfl, rfl⟩))
      | (go_at_call 15; ((with_reducible refine (rsquares_c _ _ hx hy _).mono ?_); rintro e w' ⟨rfl, rfl⟩))
      | (go_at_call 15; ((with_reducible refine (rsquares_c _ _ hr (by omega) _).mono ?_); rintro e w' ⟨rfl, rfl⟩))
      | (go_at_call 16; ((with_reducible refine (length_c _ _ hx hy _).mono ?_); rintro e w' ⟨rfl, rfl⟩))
      | (go_at_call 17; ((with_reducible refine (rlength_c _ _ hx hy _).mono ?_); rintro e w' ⟨rfl, rfl⟩))
      | (go_at_call 18; ((with_reducible refine (near_c _ _ _ hx hy hr _).mono ?_); rintro e w' ⟨rfl, rfl⟩; rw [H.out])))
    go_ret
    exact ⟨rfl, rfl⟩
  · have H := hid (near_no x y r h)
    go_enter Try.func6, Try.ntmps6
    go_wp2_with (first
      | (go_at_call 7; ((with_reducible refine (awake_c _).mono ?_); rintro e w' ⟨rfl, rfl⟩))
      | (go_at_call 13; ((with_reducible refine (toward_c _ _ _ hx hy hs _).mono ?_); rintro e w' ⟨rfl, rfl⟩))
      | (go_at_call 14; ((with_reducible refine (rtoward_c _ _ _ hx hy hs _).mono ?_); rintro e w' ⟨rfl, rfl⟩))
      | (go_at_call 16; ((with_reducible refine (length_c _ _ hx hy _).mono ?_); rintro e w' ⟨rfl, rfl⟩))
      | (go_at_call 17; ((with_reducible refine (rlength_c _ _ hx hy _).mono ?_); rintro e w' ⟨rfl, rfl⟩))
      | (go_at_call 18; ((with_reducible refine (near_c _ _ _ hx hy hr _).mono ?_); rintro e w' ⟨rfl, rfl⟩; rw [H.out])))
    go_ret
    exact ⟨rfl, rfl⟩

end Go.Proofs.Ythokggclpgdahaa.Tg
