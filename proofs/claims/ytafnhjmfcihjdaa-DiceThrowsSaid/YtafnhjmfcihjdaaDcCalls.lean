/- What each function of layer 9 (dice), and each of its document's answers, returns when it is called with any numbers of its parameters' kinds; no function here changes the memory. -/
import Derived.Test.YtafnhjmfcihjdaaRows
import Derived.WalkKit
import Derived.LoopTactic
import Derived.Laws.BitsLemmas
import Derived.Laws.BitsAllLaws
import Derived.Test.YtafnhjmfcihjdaaDcMath
namespace Go.Proofs.Ytafnhjmfcihjdaa.Dc
open Go.RowKit Go.Proofs.Ytafnhjmfcihjdaa.Fx

theorem next_c (a : Int) (w : World) :
    Calls Try.prog 7 #[.int .u32 a] w fun e w' => e = .returned (.int .u32 (nxI a)) ∧ w = w' := by
  unfold nxI
  go_enter Try.func7, Try.ntmps7
  go_wp2
  go_ret
  exact ⟨ret_int (by omega), rfl⟩

theorem rnext_c (a : Int) (h : 0 ≤ a ∧ a < 4294967296) (w : World) :
    Calls Try.prog 8 #[.int .u32 a] w fun e w' => e = .returned (.int .u32 (nxI a)) ∧ w = w' := by
  unfold nxI
  go_enter Try.func8, Try.ntmps8
  go_wp2
  go_ret
  exact ⟨ret_int (by omega), rfl⟩

theorem back_c (a : Int) (w : World) :
    Calls Try.prog 9 #[.int .u32 a] w fun e w' => e = .returned (.int .u32 (bkI a)) ∧ w = w' := by
  unfold bkI
  go_enter Try.func9, Try.ntmps9
  go_wp2
  go_ret
  exact ⟨ret_int (by omega), rfl⟩

theorem seed_c (a b : Int) (w : World) :
    Calls Try.prog 10 #[.int .u32 a, .int .u32 b] w fun e w' => e = .returned (.int .u32 (nxI (bits .xor .u32 (nxI a) b))) ∧ w = w' := by
  go_enter Try.func10, Try.ntmps10
  go_wp2_with (go_at_call 7; ((with_reducible refine (next_c _ _).mono ?_); rintro e w' ⟨rfl, rfl⟩))
  go_ret
  exact ⟨rfl, rfl⟩

theorem skip_c (a n : Int) (ha : 0 ≤ a ∧ a < 4294967296) (hn : 0 ≤ n ∧ n < 18446744073709551616) (w : World) :
    Calls Try.prog 12 #[.int .u32 a, .int .u64 n] w fun e w' => e = .returned (.int .u32 (skI a n.toNat)) ∧ w = w' := by
  have H := Sk.start a n ha
  generalize n.toNat = N at H ⊢
  go_enter Try.func12, Try.ntmps12
  go_wp2
  go_loop [0, 1, 5, 6] (fun s r p q => ∃ x y u v : Int, 0 ≤ y ∧ y < 18446744073709551616 ∧ Sk N a y x u v ∧ s = .int .u32 x ∧ r = .int .u64 y ∧ p = .int .u32 u ∧ q = .int .u32 v) (fun _ r _ _ => (intOf r).toNat)
  case atStart => exact ⟨a, n, 1664525, 1013904223, hn.1, hn.2, H, rfl, rfl, rfl, rfl⟩
  case round =>
    obtain ⟨x, y, u, v, h0, h1, hk, rfl, rfl, rfl, rfl⟩ := hrel
    clear H
    by_cases c : y = 0
    · subst c
      go_wp2
      go_ret
      exact ⟨ret_int hk.done, rfl⟩
    · have hb : bits .and .u64 y 1 = y % 2 := by
        have := u64_and y 1 h0 h1 (by omega) (by omega)
        rw [this]
        simp
        omega
      have hp : 0 < y := by omega
      by_cases d : y % 2 = 1
      · have hx := hid (hk.odd h0 d)
        go_wp2
        go_round
        case rel => exact ⟨_, y / 2, _, _, by omega, by omega, hx.out, by congr 1; omega, rfl, rfl, by congr 1; omega⟩
        case measure => simp [intOf]; omega
      · have hx := hid (hk.even h0 (by omega))
        go_wp2
        go_round
        case rel => exact ⟨x, y / 2, _, _, by omega, by omega, hx.out, rfl, rfl, rfl, by congr 1; omega⟩
        case measure => simp [intOf]; omega

/-- what a throw answers: the state, the number, and why not. -/
theorem throw_no (a n : Int) (h : ¬ (1 ≤ n ∧ n ≤ 65536)) (w : World) :
    Calls Try.prog 13 #[.int .u32 a, .int .i64 n] w fun e w' => e = .returned (.tuple #[.int .u32 0, .int .i64 0, .int .i64 1]) ∧ w = w' := by
  have c : n < 1 ∨ (1 ≤ n ∧ 65536 < n) := by omega
  clear h
  rcases c with c | c
  all_goals
    go_enter Try.func13, Try.ntmps13
    go_wp2
    go_ret3
    exact ⟨rfl, rfl⟩

theorem throw_c (a n : Int) (h : 1 ≤ n ∧ n ≤ 65536) (w : World) :
    Calls Try.prog 13 #[.int .u32 a, .int .i64 n] w fun e w' => e = .returned (.tuple #[.int .u32 (nxI a), .int .i64 (thI (nxI a) n), .int .i64 0]) ∧ w = w' := by
  have hs := nx_bd a
  obtain ⟨t1, t2, t3, t4⟩ := th_bd (nxI a) n hs h
  unfold thI at t3 t4 ⊢
  go_enter Try.func13, Try.ntmps13
  go_wp2_with (go_at_call 7; ((with_reducible refine (next_c _ _).mono ?_); rintro e w' ⟨rfl, rfl⟩))
  go_ret3
  exact ⟨rfl, rfl⟩

theorem rthrow_c (a n : Int) (ha : 0 ≤ a ∧ a < 4294967296) (h : 1 ≤ n ∧ n ≤ 65536) (w : World) :
    Calls Try.prog 14 #[.int .u32 a, .int .i64 n] w fun e w' => e = .returned (.tuple #[.int .u32 (nxI a), .int .i64 (thI (nxI a) n)]) ∧ w = w' := by
  have hs := nx_bd a
  obtain ⟨t1, t2, t3, t4⟩ := th_bd (nxI a) n hs h
  unfold thI at t3 t4 ⊢
  go_enter Try.func14, Try.ntmps14
  go_wp2_with (go_at_call 8; ((with_reducible refine (rnext_c _ ha _).mono ?_); rintro e w' ⟨rfl, rfl⟩))
  go_ret2
  exact ⟨rfl, rfl⟩

theorem xor_bd (a b : Int) (ha : 0 ≤ a ∧ a < 4294967296) (hb : 0 ≤ b ∧ b < 4294967296) : 0 ≤ bits .xor .u32 a b ∧ bits .xor .u32 a b < 4294967296 := by
  rw [u32_xor a b ha.1 ha.2 hb.1 hb.2]
  have := Nat.xor_lt_two_pow (n := 32) (show a.toNat < 2 ^ 32 by omega) (show b.toNat < 2 ^ 32 by omega)
  omega

theorem rseed_c (a b : Int) (ha : 0 ≤ a ∧ a < 4294967296) (hb : 0 ≤ b ∧ b < 4294967296) (w : World) :
    Calls Try.prog 11 #[.int .u32 a, .int .u32 b] w fun e w' => e = .returned (.int .u32 (nxI (bits .xor .u32 (nxI a) b))) ∧ w = w' := by
  have hx := xor_bd (nxI a) b (nx_bd a) hb
  go_enter Try.func11, Try.ntmps11
  go_wp2_with (go_at_call 8; ((with_reducible refine (rnext_c _ (by omega) _).mono ?_); rintro e w' ⟨rfl, rfl⟩))
  go_ret
  exact ⟨rfl, rfl⟩

end Go.Proofs.Ytafnhjmfcihjdaa.Dc
