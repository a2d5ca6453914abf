/- What each function of layer 3 (serial), and each of its document's answers, returns when it is called with any numbers of its parameters' kinds; no function here changes the memory. -/
import Derived.Test.YtlbofdaonmjejaaRows
import Derived.WalkKit
import Derived.LoopTactic
import Derived.Test.YtlbofdaonmjejaaSrMath
namespace Go.Proofs.Ytlbofdaonmjejaa.Sr
open Go.RowKit Go.Proofs.Ytlbofdaonmjejaa.Fx

theorem of_c (f : Int) (w : World) :
    Calls Try.prog 13 #[.int .i64 f] w fun e w' => e = .returned (.int .u16 (f % 65536)) ∧ w = w' := by
  go_enter Try.func13, Try.ntmps13
  go_wp2
  go_ret
  exact ⟨rfl, rfl⟩

theorem steps_wrap (a b : Int) : wrap64 (IntKind.i16.wrap (IntKind.u16.wrap (b - a))) = stepsI a b := by
  have h : IntKind.i16.wrap (IntKind.u16.wrap (b - a)) = stepsI a b := by
    unfold stepsI
    rw [IntKind.wrap_u16]
    simp only [IntKind.wrap, IntKind.bits, IntKind.signed]
    simp
    split <;> omega
  have := steps_bd a b
  rw [h, IntWalk.wrap64_in _ (by omega)]

theorem steps_c (a b : Int) (w : World) :
    Calls Try.prog 9 #[.int .u16 a, .int .u16 b] w fun e w' => e = .returned (.int .i64 (stepsI a b)) ∧ w = w' := by
  go_enter Try.func9, Try.ntmps9
  go_wp2
  go_ret
  exact ⟨ret_int (steps_wrap a b), rfl⟩

theorem next_c (a : Int) (w : World) :
    Calls Try.prog 11 #[.int .u16 a] w fun e w' => e = .returned (.int .u16 ((a + 1) % 65536)) ∧ w = w' := by
  go_enter Try.func11, Try.ntmps11
  go_wp2
  go_ret
  exact ⟨rfl, rfl⟩

theorem newer_c (a b : Int) (w : World) :
    Calls Try.prog 10 #[.int .u16 a, .int .u16 b] w fun e w' => e = .returned (.bool (decide (0 < stepsI b a))) ∧ w = w' := by
  go_enter Try.func10, Try.ntmps10
  go_wp2_with (go_at_call 9; ((with_reducible refine (steps_c _ _ _).mono ?_); rintro e w' ⟨rfl, rfl⟩))
  go_ret
  exact ⟨rfl, rfl⟩

theorem isFrame_c (n : Int) (w : World) :
    Calls Try.prog 16 #[.int .i64 n] w fun e w' => e = .returned (.bool (frameB n)) ∧ w = w' := by
  unfold frameB
  by_cases h : 0 ≤ n
  · have hd : decide (0 ≤ n) = true := by simpa using h
    rw [hd, Bool.true_and]
    go_enter Try.func16, Try.ntmps16
    go_wp2
    go_ret
    exact ⟨rfl, rfl⟩
  · have hd : decide (0 ≤ n) = false := by simpa using h
    rw [hd, Bool.false_and]
    go_enter Try.func16, Try.ntmps16
    go_wp2_with (fail)
    go_ret
    exact ⟨rfl, rfl⟩

/-- what a frame's asking answers: the frame, or 0 and why not. -/
def frameE (n s : Int) : Int := if frameB n = true then (if frameB (nearI n s) = true then 0 else 6) else 1
def frameI (n s : Int) : Int := if frameB n = true then (if frameB (nearI n s) = true then nearI n s else 0) else 0
theorem frame_arg (n s : Int) (h : frameB n = false) : frameI n s = 0 ∧ frameE n s = 1 := by simp [frameI, frameE, h]
theorem frame_none (n s : Int) (h : frameB n = true) (k : frameB (nearI n s) = false) : frameI n s = 0 ∧ frameE n s = 6 := by simp [frameI, frameE, h, k]
theorem frame_is (n s : Int) (h : frameB n = true) (k : frameB (nearI n s) = true) : frameI n s = nearI n s ∧ frameE n s = 0 := by simp [frameI, frameE, h, k]

theorem frame_c (n s : Int) (w : World) :
    Calls Try.prog 14 #[.int .i64 n, .int .u16 s] w fun e w' => e = .returned (.tuple #[.int .i64 (frameI n s), .int .i64 (frameE n s)]) ∧ w = w' := by
  by_cases h : 0 ≤ n ∧ n ≤ 1073741824
  · have f := frame_yes n h
    have hb := near_bd n s
    by_cases k : 0 ≤ nearI n s ∧ nearI n s ≤ 1073741824
    · have g := frame_yes _ k
      rw [(frame_is n s f g).1, (frame_is n s f g).2]
      unfold nearI at g hb k ⊢
      go_enter Try.func14, Try.ntmps14
      go_wp2_with (first
        | (go_at_call 16; ((with_reducible refine (isFrame_c _ _).mono ?_); rintro e w' ⟨rfl, rfl⟩))
        | (go_at_call 13; ((with_reducible refine (of_c _ _).mono ?_); rintro e w' ⟨rfl, rfl⟩))
        | (go_at_call 9; ((with_reducible refine (steps_c _ _ _).mono ?_); rintro e w' ⟨rfl, rfl⟩)))
      go_ret2
      exact ⟨rfl, rfl⟩
    · have g := frame_no _ k
      rw [(frame_none n s f g).1, (frame_none n s f g).2]
      unfold nearI at g hb k
      go_enter Try.func14, Try.ntmps14
      go_wp2_with (first
        | (go_at_call 16; ((with_reducible refine (isFrame_c _ _).mono ?_); rintro e w' ⟨rfl, rfl⟩))
        | (go_at_call 13; ((with_reducible refine (of_c _ _).mono ?_); rintro e w' ⟨rfl, rfl⟩))
        | (go_at_call 9; ((with_reducible refine (steps_c _ _ _).mono ?_); rintro e w' ⟨rfl, rfl⟩)))
      go_ret2
      exact ⟨rfl, rfl⟩
  · have f := frame_no n h
    rw [(frame_arg n s f).1, (frame_arg n s f).2]
    go_enter Try.func14, Try.ntmps14
    go_wp2_with (go_at_call 16; ((with_reducible refine (isFrame_c _ _).mono ?_); rintro e w' ⟨rfl, rfl⟩))
    go_ret2
    exact ⟨rfl, rfl⟩

theorem rof_c (f : Int) (w : World) :
    Calls Try.prog 12 #[.int .i64 f] w fun e w' => e = .returned (.int .u16 (f % 65536)) ∧ w = w' := by
  have ht := tmod_bd f 65536 (by omega)
  by_cases h : 0 ≤ f
  · go_enter Try.func12, Try.ntmps12
    go_wp2
    go_ret
    exact ⟨rfl, rfl⟩
  · by_cases h2 : f.tmod 65536 < 0
    · rw [← tmod_up f h2]
      go_enter Try.func12, Try.ntmps12
      go_wp2
      go_ret
      exact ⟨rfl, rfl⟩
    · rw [← tmod_same f (by omega)]
      go_enter Try.func12, Try.ntmps12
      go_wp2
      go_ret
      exact ⟨rfl, rfl⟩

theorem rsteps_c (a b : Int) (ha : 0 ≤ a ∧ a < 65536) (hb : 0 ≤ b ∧ b < 65536) (w : World) :
    Calls Try.prog 8 #[.int .u16 a, .int .u16 b] w fun e w' => e = .returned (.int .i64 (stepsI a b)) ∧ w = w' := by
  by_cases h1 : b - a < -32768
  · rw [steps_lo a b h1 ha hb]
    go_enter Try.func8, Try.ntmps8
    go_wp2
    go_ret
    exact ⟨rfl, rfl⟩
  · by_cases h2 : 32767 < b - a
    · rw [steps_hi a b h2 ha hb]
      go_enter Try.func8, Try.ntmps8
      go_wp2
      go_ret
      exact ⟨rfl, rfl⟩
    · rw [steps_mid a b (by omega) (by omega)]
      go_enter Try.func8, Try.ntmps8
      go_wp2
      go_ret
      exact ⟨rfl, rfl⟩

/-- of both ends of two numbers' places: an ending with a frame and no error, or with 0 and one. -/
theorem ret_two {a b c d : Int} (h : c = a ∧ d = b) : Ending.returned (.tuple #[.int .i64 a, .int .i64 b]) = .returned (.tuple #[.int .i64 c, .int .i64 d]) := by rw [h.1, h.2]

/-- what the document's way goes through: the least of three numbers of a rest, the better one of it and the next, the nearest. -/
theorem near_ways (n s : Int) (hs : 0 ≤ s ∧ s < 65536) : ∃ B b : Int, B = n - n % 65536 + s ∧ -65536 < B - n ∧ B - n < 65536 ∧ ((B - n < 32768 ∧ b = B) ∨ (32768 ≤ B - n ∧ b = B - 65536)) ∧ ((B - n < -32768 ∧ nearI n s = B + 65536) ∨ (-32768 ≤ B - n ∧ nearI n s = b)) := by
  by_cases h1 : s - n % 65536 < -32768
  · exact ⟨_, _, rfl, by omega, by omega, Or.inl ⟨by omega, rfl⟩, Or.inl ⟨by omega, by unfold nearI; rw [steps_lo _ _ h1 (by omega) hs]; omega⟩⟩
  · by_cases h2 : s - n % 65536 < 32768
    · exact ⟨_, _, rfl, by omega, by omega, Or.inl ⟨by omega, rfl⟩, Or.inr ⟨by omega, by unfold nearI; rw [steps_mid _ _ (by omega) (by omega)]; omega⟩⟩
    · exact ⟨_, _, rfl, by omega, by omega, Or.inr ⟨by omega, rfl⟩, Or.inr ⟨by omega, by unfold nearI; rw [steps_hi _ _ (by omega) (by omega) hs]; omega⟩⟩

theorem rframe_c (n s : Int) (hs : 0 ≤ s ∧ s < 65536) (w : World) :
    Calls Try.prog 15 #[.int .i64 n, .int .u16 s] w fun e w' => e = .returned (.tuple #[.int .i64 (frameI n s), .int .i64 (frameE n s)]) ∧ w = w' := by
  by_cases h : 0 ≤ n ∧ n ≤ 1073741824
  · have f := hid (frame_yes n h)
    obtain ⟨B, b, rfl, d1, d2, hb, hn⟩ := near_ways n s hs
    have bN := near_bd n s
    go_enter Try.func15, Try.ntmps15
    go_wp2
    go_loop [7, 8] (fun t u => ∃ x j : Int, t = .int .i64 x ∧ u = .int .i64 j ∧ ((j = 0 ∧ x = n - n % 65536 + s - 65536) ∨ (j = 1 ∧ x = b) ∨ (j = 2 ∧ x = nearI n s))) (fun _ u => (2 - intOf u).toNat)
    case atStart => exact ⟨_, 0, rfl, rfl, Or.inl ⟨rfl, rfl⟩⟩
    case round =>
      obtain ⟨x, j, rfl, rfl, hj⟩ := hrel
      rcases hj with ⟨rfl, rfl⟩ | ⟨rfl, rfl⟩ | ⟨rfl, rfl⟩
      · have c : n - n % 65536 + s - n < 0 ∨ (0 ≤ n - n % 65536 + s - n ∧ n - n % 65536 + s - n < 32768) ∨ 32768 ≤ n - n % 65536 + s - n := by omega
        rcases c with c | c | c
        all_goals
          go_wp2
          go_round
          case rel => exact ⟨b, 1, by congr 1; omega, rfl, Or.inr (Or.inl ⟨rfl, rfl⟩)⟩
          case measure => simp [intOf]
      · have c : n - n % 65536 + s - n < -32768 ∨ (-32768 ≤ n - n % 65536 + s - n ∧ n - n % 65536 + s - n ≤ 0) ∨ (0 < n - n % 65536 + s - n ∧ n - n % 65536 + s - n < 32768) ∨ 32768 ≤ n - n % 65536 + s - n := by omega
        rcases c with c | c | c | c
        all_goals
          go_wp2
          go_round
          case rel => exact ⟨nearI n s, 2, by congr 1; omega, rfl, Or.inr (Or.inr ⟨rfl, rfl⟩)⟩
          case measure => simp [intOf]
      · by_cases k : 0 ≤ nearI n s ∧ nearI n s ≤ 1073741824
        · have g := hid (frame_is n s f.out (frame_yes _ k))
          go_wp2
          go_ret2
          exact ⟨ret_two g.out, rfl⟩
        · have g := hid (frame_none n s f.out (frame_no _ k))
          have c : nearI n s < 0 ∨ (0 ≤ nearI n s ∧ 1073741824 < nearI n s) := by omega
          rcases c with c | c
          all_goals
            go_wp2
            go_ret2
            exact ⟨ret_two g.out, rfl⟩
  · have f := frame_no n h
    rw [(frame_arg n s f).1, (frame_arg n s f).2]
    by_cases h0 : n < 0
    · go_enter Try.func15, Try.ntmps15
      go_wp2_with (fail)
      go_ret2
      exact ⟨rfl, rfl⟩
    · have h1 : 1073741824 < n := by omega
      go_enter Try.func15, Try.ntmps15
      go_wp2
      go_ret2
      exact ⟨rfl, rfl⟩

end Go.Proofs.Ytlbofdaonmjejaa.Sr
