/- Two lists of ints that hold the same: promptbookref04.Ints answers true, and turns nothing. -/
import Derived.Test.YtlfhffljepganaaRgCalls
namespace Go.Proofs.Ytlfhffljepganaa.Rg
open Go.RowKit
set_option linter.unusedVariables false

theorem ints_c (n₁ n₂ : Nat) (ao ao' : Option Addr) (cap cap' : Nat) (l : List Int) (w : World) (h : w.ownsRow n₁ 3 1 (.slice ao l.length cap) l.length (ints l)) (h' : w.ownsRow n₂ 3 1 (.slice ao' l.length cap') l.length (ints l)) (hl : l.length ≤ 9000000) :
    Calls Try.prog 12 #[.slice ao l.length cap, .slice ao' l.length cap'] w fun e w' => e = .returned (.bool true) ∧ ∃ q, w' = w.drewN q := by
  go_enter Try.func12, Try.ntmps12
  go_wp2
  go_loopw [5] (fun i wr => ∃ k q : Nat, k ≤ l.length ∧ i = .int .i64 k ∧ wr = w.drewN q) (fun i _ => l.length - (intOf i).toNat)
  case atStart => exact ⟨0, 0, Nat.zero_le _, rfl, rfl⟩
  case round =>
    obtain ⟨k, q, hk, rfl, rfl⟩ := hrel
    by_cases hlt : k < l.length
    · obtain ⟨g, hg, hc⟩ := row_cell h k hlt
      obtain ⟨g', hg', hc'⟩ := row_cell h' k hlt
      subst hg
      subst hg'
      generalize l[k]?.getD 0 = y at hc hc'
      have hk0 : (0 : Int) ≤ (k : Int) := by omega
      have hk1 : (k : Int) < (l.length : Int) := by omega
      clear h h'
      go_wp2_with fail
      go_quiet (fail)
      go_wp2
      go_roundw
      case rel => exact ⟨k + 1, _, by omega, by go_num, rfl⟩
      case measure => simp [intOf]; omega
    · go_wp2
      go_ret
      exact ⟨rfl, _, rfl⟩

end Go.Proofs.Ytlfhffljepganaa.Rg
