/- What each function of layer 9 (dice), and each of its document's answers, returns when it is called with any numbers of its parameters' kinds; no function here changes the memory. -/
import Derived.Test.YtoogcbniphoaoaaDoorRows
import Derived.WalkKit
import Derived.LoopTactic
import Derived.Laws.BitsLemmas
import Derived.Laws.BitsAllLaws
import Derived.Test.YtoogcbniphoaoaaDoorDcMath
namespace Go.Proofs.YtoogcbniphoaoaaDoor.Dc
open Go.RowKit Go.Proofs.YtoogcbniphoaoaaDoor.Fx

theorem next_c (a : Int) (w : World) :
    Calls Tryd.prog 51 #[.int .u32 a] w fun e w' => e = .returned (.int .u32 (nxI a)) ∧ w = w' := by
  unfold nxI
  go_enter Tryd.func51, Tryd.ntmps51
  go_wp2
  go_ret
  exact ⟨ret_int (by omega), rfl⟩

/-- what a throw answers: the state, the number, and why not. -/
theorem throw_no (a n : Int) (h : ¬ (1 ≤ n ∧ n ≤ 65536)) (w : World) :
    Calls Tryd.prog 39 #[.int .u32 a, .int .i64 n] w fun e w' => e = .returned (.tuple #[.int .u32 0, .int .i64 0, .int .i64 1]) ∧ w = w' := by
  have c : n < 1 ∨ (1 ≤ n ∧ 65536 < n) := by omega
  clear h
  rcases c with c | c
  all_goals
    go_enter Tryd.func39, Tryd.ntmps39
    go_wp2
    go_ret3
    exact ⟨rfl, rfl⟩

theorem throw_c (a n : Int) (h : 1 ≤ n ∧ n ≤ 65536) (w : World) :
    Calls Tryd.prog 39 #[.int .u32 a, .int .i64 n] w fun e w' => e = .returned (.tuple #[.int .u32 (nxI a), .int .i64 (thI (nxI a) n), .int .i64 0]) ∧ w = w' := by
  have hs := nx_bd a
  obtain ⟨t1, t2, t3, t4⟩ := th_bd (nxI a) n hs h
  unfold thI at t3 t4 ⊢
  go_enter Tryd.func39, Tryd.ntmps39
  go_wp2_with (go_at_call 51; ((with_reducible refine (next_c _ _).mono ?_); rintro e w' ⟨rfl, rfl⟩))
  go_ret3
  exact ⟨rfl, rfl⟩

theorem xor_bd (a b : Int) (ha : 0 ≤ a ∧ a < 4294967296) (hb : 0 ≤ b ∧ b < 4294967296) : 0 ≤ bits .xor .u32 a b ∧ bits .xor .u32 a b < 4294967296 := by
  rw [u32_xor a b ha.1 ha.2 hb.1 hb.2]
  have := Nat.xor_lt_two_pow (n := 32) (show a.toNat < 2 ^ 32 by omega) (show b.toNat < 2 ^ 32 by omega)
  omega

end Go.Proofs.YtoogcbniphoaoaaDoor.Dc
