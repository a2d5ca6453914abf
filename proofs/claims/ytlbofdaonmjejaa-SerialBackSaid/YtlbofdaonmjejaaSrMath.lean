/- Plain facts on whole numbers for layer 3 (serial): rests by 65536, the shorter way round, the nearest number with a given rest. Nothing of the program is in this text. -/
import Derived.WalkKit
import Derived.Test.YtlbofdaonmjejaaFxMath
namespace Go.Proofs.Ytlbofdaonmjejaa.Sr
open Go.Proofs.Ytlbofdaonmjejaa.Fx

/-- from one rest on to another, or back, the shorter way; half the way round is back. -/
def stepsI (a b : Int) : Int := (b - a + 32768) % 65536 - 32768
/-- the number of rest s that is nearest to n, the lesser of two. -/
def nearI (n s : Int) : Int := n + stepsI (n % 65536) s
/-- is it a frame? -/
def frameB (n : Int) : Bool := decide (0 ≤ n) && decide (n ≤ 1073741824)

theorem steps_bd (a b : Int) : -32768 ≤ stepsI a b ∧ stepsI a b ≤ 32767 := by unfold stepsI; omega
theorem steps_is (a b : Int) : ∃ k : Int, stepsI a b = b - a + 65536 * k := ⟨-((b - a + 32768) / 65536), by unfold stepsI; omega⟩
theorem near_bd (n s : Int) : n - 32768 ≤ nearI n s ∧ nearI n s ≤ n + 32767 := by have := steps_bd (n % 65536) s; unfold nearI; omega
theorem frame_yes (n : Int) (h : 0 ≤ n ∧ n ≤ 1073741824) : frameB n = true := by simp [frameB, h]
theorem frame_no (n : Int) (h : ¬ (0 ≤ n ∧ n ≤ 1073741824)) : frameB n = false := by simp only [frameB, Bool.and_eq_false_iff, decide_eq_false_iff_not]; omega
theorem steps_lo (a b : Int) (h : b - a < -32768) (ha : 0 ≤ a ∧ a < 65536) (hb : 0 ≤ b ∧ b < 65536) : stepsI a b = b - a + 65536 := by unfold stepsI; omega
theorem steps_hi (a b : Int) (h : 32767 < b - a) (ha : 0 ≤ a ∧ a < 65536) (hb : 0 ≤ b ∧ b < 65536) : stepsI a b = b - a - 65536 := by unfold stepsI; omega
theorem steps_mid (a b : Int) (h : -32768 ≤ b - a) (h' : b - a ≤ 32767) : stepsI a b = b - a := by unfold stepsI; omega
theorem near_back (n d : Int) (h : -32767 ≤ d ∧ d ≤ 32767) : nearI n ((n + d) % 65536) = n + d := by unfold nearI stepsI; omega
theorem tmod_up (a : Int) (h : a.tmod 65536 < 0) : a.tmod 65536 + 65536 = a % 65536 := by
  have := Int.mul_tdiv_add_tmod a 65536
  have := tmod_bd a 65536 (by omega)
  omega
theorem tmod_same (a : Int) (h : 0 ≤ a.tmod 65536) : a.tmod 65536 = a % 65536 := by
  have := Int.mul_tdiv_add_tmod a 65536
  have := tmod_bd a 65536 (by omega)
  omega

end Go.Proofs.Ytlbofdaonmjejaa.Sr
