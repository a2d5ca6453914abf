/- The four statements of layer 3 (serial), as walks: each law, called with any numbers of its parameters' kinds, returns true and leaves the memory as it was. -/
import Derived.Test.YtlbofdaonmjejaaSrCalls
namespace Go.Proofs.Ytlbofdaonmjejaa.Sr
open Go.RowKit Go.Proofs.Ytlbofdaonmjejaa.Fx

theorem awake_c (w : World) :
    Calls Try.prog 7 #[] w fun e w' => e = .returned (.bool true) ∧ w = w' := by
  have e1 : frameI 70000 5 = 65541 := by decide
  have e2 : frameE 70000 5 = 0 := by decide
  have e3 : stepsI 65535 2 = 3 := by decide
  have H1 := hid e1
  have H2 := hid e2
  have H3 := hid e3
  clear e1 e2 e3
  go_enter Try.func7, Try.ntmps7
  go_wp2_with (first
    | (go_at_call 14; ((with_reducible refine (frame_c _ _ _).mono ?_); rintro e w' ⟨rfl, rfl⟩; rw [H1.out, H2.out]))
    | (go_at_call 9; ((with_reducible refine (steps_c _ _ _).mono ?_); rintro e w' ⟨rfl, rfl⟩; rw [H3.out])))
  go_ret
  exact ⟨rfl, rfl⟩

theorem steps_w (a b f : Int) (ha : 0 ≤ a ∧ a < 65536) (hb : 0 ≤ b ∧ b < 65536) (w : World) :
    Calls Try.prog 3 #[.int .u16 a, .int .u16 b, .int .i64 f] w fun e w' => e = .returned (.bool true) ∧ w = w' := by
  go_enter Try.func3, Try.ntmps3
  go_wp2_with (first
    | (go_at_call 7; ((with_reducible refine (awake_c _).mono ?_); rintro e w' ⟨rfl, rfl⟩))
    | (go_at_call 8; ((with_reducible refine (rsteps_c _ _ ha hb _).mono ?_); rintro e w' ⟨rfl, rfl⟩))
    | (go_at_call 9; ((with_reducible refine (steps_c _ _ _).mono ?_); rintro e w' ⟨rfl, rfl⟩))
    | (go_at_call 10; ((with_reducible refine (newer_c _ _ _).mono ?_); rintro e w' ⟨rfl, rfl⟩))
    | (go_at_call 11; ((with_reducible refine (next_c _ _).mono ?_); rintro e w' ⟨rfl, rfl⟩))
    | (go_at_call 12; ((with_reducible refine (rof_c _ _).mono ?_); rintro e w' ⟨rfl, rfl⟩))
    | (go_at_call 13; ((with_reducible refine (of_c _ _).mono ?_); rintro e w' ⟨rfl, rfl⟩)))
  go_ret
  exact ⟨rfl, rfl⟩

theorem back_w (n d : Int) (w : World) :
    Calls Try.prog 5 #[.int .i64 n, .int .i64 d] w fun e w' => e = .returned (.bool true) ∧ w = w' := by
  by_cases h : (0 ≤ n ∧ n ≤ 1073741824) ∧ (-32767 ≤ d ∧ d ≤ 32767) ∧ (0 ≤ n + d ∧ n + d ≤ 1073741824)
  · have g := near_back n d h.2.1
    have f := frame_is n ((n + d) % 65536) (frame_yes n h.1) (by rw [g]; exact frame_yes _ h.2.2)
    have H1 := hid (f.1.trans g)
    have H2 := hid f.2
    obtain ⟨⟨h1, h2⟩, ⟨h3, h4⟩, h5, h6⟩ := h
    clear g f
    go_enter Try.func5, Try.ntmps5
    go_wp2_with (first
      | (go_at_call 7; ((with_reducible refine (awake_c _).mono ?_); rintro e w' ⟨rfl, rfl⟩))
      | (go_at_call 13; ((with_reducible refine (of_c _ _).mono ?_); rintro e w' ⟨rfl, rfl⟩))
      | (go_at_call 14; ((with_reducible refine (frame_c _ _ _).mono ?_); rintro e w' ⟨rfl, rfl⟩; rw [H1.out, H2.out])))
    go_ret
    exact ⟨rfl, rfl⟩
  · have c : n < 0 ∨ (0 ≤ n ∧ 1073741824 < n) ∨ (0 ≤ n ∧ n ≤ 1073741824 ∧ d < -32767) ∨ (0 ≤ n ∧ n ≤ 1073741824 ∧ -32767 ≤ d ∧ 32767 < d) ∨ (0 ≤ n ∧ n ≤ 1073741824 ∧ -32767 ≤ d ∧ d ≤ 32767 ∧ n + d < 0) ∨ (0 ≤ n ∧ n ≤ 1073741824 ∧ -32767 ≤ d ∧ d ≤ 32767 ∧ 0 ≤ n + d ∧ 1073741824 < n + d) := by omega
    clear h
    rcases c with c | c | c | c | c | c
    all_goals
      go_enter Try.func5, Try.ntmps5
      go_wp2_with (go_at_call 7; ((with_reducible refine (awake_c _).mono ?_); rintro e w' ⟨rfl, rfl⟩))
      go_ret
      exact ⟨rfl, rfl⟩

theorem near_w (n s : Int) (hs : 0 ≤ s ∧ s < 65536) (w : World) :
    Calls Try.prog 4 #[.int .i64 n, .int .u16 s] w fun e w' => e = .returned (.bool true) ∧ w = w' := by
  go_enter Try.func4, Try.ntmps4
  go_wp2_with (first
    | (go_at_call 7; ((with_reducible refine (awake_c _).mono ?_); rintro e w' ⟨rfl, rfl⟩))
    | (go_at_call 15; ((with_reducible refine (rframe_c _ _ hs _).mono ?_); rintro e w' ⟨rfl, rfl⟩))
    | (go_at_call 14; ((with_reducible refine (frame_c _ _ _).mono ?_); rintro e w' ⟨rfl, rfl⟩)))
  go_ret
  exact ⟨rfl, rfl⟩

theorem newer_yes (a b : Int) (h : 0 < stepsI b a) : decide (0 < stepsI b a) = true := by simpa using h
theorem newer_no (a b : Int) (h : ¬ 0 < stepsI b a) : decide (0 < stepsI b a) = false := by simpa using h
theorem newer_next (a : Int) : decide (0 < stepsI a ((a + 1) % 65536)) = true := newer_yes _ _ (by unfold stepsI; omega)

theorem one_w (a b : Int) (ha : 0 ≤ a ∧ a < 65536) (hb : 0 ≤ b ∧ b < 65536) (w : World) :
    Calls Try.prog 6 #[.int .u16 a, .int .u16 b] w fun e w' => e = .returned (.bool true) ∧ w = w' := by
  have hq : IntKind.u16.wrap (a - b) = (a - b) % 65536 := IntKind.wrap_u16 _
  have H0 := hid (newer_next a)
  have c : (a = b ∨ (a ≠ b ∧ (a - b) % 65536 = 32768)) ∧ ¬ 0 < stepsI b a ∧ ¬ 0 < stepsI a b
    ∨ (a ≠ b ∧ (a - b) % 65536 ≠ 32768) ∧ 0 < stepsI b a ∧ ¬ 0 < stepsI a b ∧ ((a - b) % 65536 = 1 ∨ ((a - b) % 65536 ≠ 1 ∧ 0 < stepsI ((b + 1) % 65536) a))
    ∨ (a ≠ b ∧ (a - b) % 65536 ≠ 32768) ∧ ¬ 0 < stepsI b a ∧ 0 < stepsI a b := by unfold stepsI; omega
  rcases c with ⟨c, n1, n2⟩ | ⟨c, n1, n2, d⟩ | ⟨c, n1, n2⟩
  · have H1 := hid (newer_no a b n1)
    have H2 := hid (newer_no b a n2)
    clear n1 n2 H0
    rcases c with c | c
    · subst c
      clear hq hb H2
      go_enter Try.func6, Try.ntmps6
      go_wp2_with (first
        | (go_at_call 7; ((with_reducible refine (awake_c _).mono ?_); rintro e w' ⟨rfl, rfl⟩))
        | (go_at_call 10; ((with_reducible refine (newer_c _ _ _).mono ?_); rintro e w' ⟨rfl, rfl⟩; rw [H1.out])))
      go_ret
      exact ⟨rfl, rfl⟩
    · have k1 : (a == b) = false := by simpa using c.1
      have k2 : ((a - b) % 65536 == 32768) = true := by simpa using c.2
      go_enter Try.func6, Try.ntmps6
      go_wp2_with (first
        | (go_at_call 7; ((with_reducible refine (awake_c _).mono ?_); rintro e w' ⟨rfl, rfl⟩))
        | (go_at_call 10; ((with_reducible refine (newer_c _ _ _).mono ?_); rintro e w' ⟨rfl, rfl⟩; (first | rw [H1.out] | rw [H2.out]))))
      go_ret
      exact ⟨rfl, rfl⟩
  · have H1 := hid (newer_yes a b n1)
    have H2 := hid (newer_no b a n2)
    clear n1 n2
    have k1 : (a == b) = false := by simpa using c.1
    have k2 : ((a - b) % 65536 == 32768) = false := by simpa using c.2
    rcases d with d | ⟨d, n3⟩
    · go_enter Try.func6, Try.ntmps6
      go_wp2_with (first
        | (go_at_call 7; ((with_reducible refine (awake_c _).mono ?_); rintro e w' ⟨rfl, rfl⟩))
        | (go_at_call 11; ((with_reducible refine (next_c _ _).mono ?_); rintro e w' ⟨rfl, rfl⟩))
        | (go_at_call 10; ((with_reducible refine (newer_c _ _ _).mono ?_); rintro e w' ⟨rfl, rfl⟩; (first | rw [H1.out] | rw [H2.out] | rw [H0.out]))))
      go_ret
      exact ⟨rfl, rfl⟩
    · have H3 := hid (newer_yes _ _ n3)
      have k3 : ((a - b) % 65536 == 1) = false := by simpa using d
      clear n3
      go_enter Try.func6, Try.ntmps6
      go_wp2_with (first
        | (go_at_call 7; ((with_reducible refine (awake_c _).mono ?_); rintro e w' ⟨rfl, rfl⟩))
        | (go_at_call 11; ((with_reducible refine (next_c _ _).mono ?_); rintro e w' ⟨rfl, rfl⟩))
        | (go_at_call 10; ((with_reducible refine (newer_c _ _ _).mono ?_); rintro e w' ⟨rfl, rfl⟩; (first | rw [H1.out] | rw [H2.out] | rw [H0.out] | rw [H3.out]))))
      go_ret
      exact ⟨rfl, rfl⟩
  · have H1 := hid (newer_no a b n1)
    have H2 := hid (newer_yes b a n2)
    have k1 : (a == b) = false := by simpa using c.1
    have k2 : ((a - b) % 65536 == 32768) = false := by simpa using c.2
    clear n1 n2
    go_enter Try.func6, Try.ntmps6
    go_wp2_with (first
      | (go_at_call 7; ((with_reducible refine (awake_c _).mono ?_); rintro e w' ⟨rfl, rfl⟩))
      | (go_at_call 11; ((with_reducible refine (next_c _ _).mono ?_); rintro e w' ⟨rfl, rfl⟩))
      | (go_at_call 10; ((with_reducible refine (newer_c _ _ _).mono ?_); rintro e w' ⟨rfl, rfl⟩; (first | rw [H1.out] | rw [H2.out] | rw [H0.out]))))
    go_ret
    exact ⟨rfl, rfl⟩

end Go.Proofs.Ytlbofdaonmjejaa.Sr
