/- The document's Right of layer 7 (wire), in tests. -/
import Derived.Test.YtnjmmmclelmeiaaWrBox
namespace Go.Proofs.Ytnjmmmclelmeiaa.Wr
open Go.RowKit Go.Proofs.Ytnjmmmclelmeiaa.Fx Go.Proofs.Ytnjmmmclelmeiaa.Pk

/-- when it may be, in the document's tests. -/
def RB (k : Int) (f lo hi b0 b1 b2 b3 z4 z5 : Bool) : Bool := f && !lo && !hi && !strayB k b0 b1 b2 b3 (!z4) (!z5) && !(decide (k = 3) && !b3)
theorem right_RB (k : Int) (n s a u : Nat) (l : List UInt8) (d : Int) (L : Nat) (hk : 1 ≤ k ∧ k ≤ 7) (hL : l.length = L) :
    rightB ⟨k, n, s, a, l, u, d⟩ = RB k (fitB l) (decide (d < -1000)) (decide (1000 < d)) ((n : Int) != 0) ((s : Int) != 0) ((a : Int) != 0) (decide (0 < L)) ((u : Int) == 0) (d == 0) := by
  rw [right_parts ⟨k, n, s, a, l, u, d⟩ hk]
  unfold RB strayD
  dsimp only
  rw [hL]
  have e1 : decide (-1000 ≤ d ∧ d ≤ 1000) = (!decide (d < -1000) && !decide (1000 < d)) := by
    rw [Bool.eq_iff_iff]; simp
  have e2 : decide (L = 0) = !decide (0 < L) := by
    rw [Bool.eq_iff_iff]; simp
  have e3 : ((u : Int) != 0) = !((u : Int) == 0) := rfl
  have e4 : (d != 0) = !(d == 0) := rfl
  rw [e1, e2, e3, e4]
  generalize strayB k ((n : Int) != 0) ((s : Int) != 0) ((a : Int) != 0) (decide (0 < L)) (!((u : Int) == 0)) (!(d == 0)) = x
  generalize decide (k = 3) = y
  generalize decide (0 < L) = z
  generalize fitB l = f
  generalize decide (d < -1000) = lo
  generalize decide (1000 < d) = hi
  revert x y z f lo hi
  decide

theorem rright_low (m : Dg) (ao : Option Addr) (L cap : Nat) (w : World) (hk : ¬ (1 ≤ m.kind ∧ m.kind ≤ 7)) :
    Calls Try.prog 10 #[.agg (cellsD m (.slice ao L cap))] w fun e w' => e = .returned (.bool (rightB m)) ∧ w' = w.alloc (.cells (cellsD m (.slice ao L cap)) 26) := by
  rw [right_no (fun h => hk h.1)]
  by_cases h : m.kind < 1
  · clear hk
    go_enter Try.func10, Try.ntmps10
    go_wp2_with fail
    go_ret
    exact ⟨rfl, rfl⟩
  · have h7 : 7 < m.kind := by omega
    clear hk
    go_enter Try.func10, Try.ntmps10
    go_wp2_with fail
    go_ret
    exact ⟨rfl, rfl⟩
end Go.Proofs.Ytnjmmmclelmeiaa.Wr
