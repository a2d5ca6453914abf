/- What each call of layer 4's rings, and of its document's answers, returns, and what it leaves of the memory: New, Len, Room, At, Last, Push, Take, Pop; the document's Push, Take and Ints. -/
import Derived.Test.YtfifoikphhjomaaRows
import Derived.WalkKit
import Derived.LoopTactic
import Derived.Deep.QuietTactic
import Derived.BigQuiet
import Derived.Deep.RegionLaw
import Derived.Lib.SliceRun
import Derived.Test.YtfifoikphhjomaaRgWorld
namespace Go.Proofs.Ytfifoikphhjomaa.Rg
open Go.RowKit

theorem info_int : (Try.prog.info? 3).map (fun i => (i.zero, i.size, i.bytes)) = some (some (.int .i64 0), 1, 8) := by kernel_rfl

def sizeB (n : Int) : Bool := decide (1 ≤ n) && decide (n ≤ 4096)
theorem size_yes (n : Int) (h : 1 ≤ n ∧ n ≤ 4096) : sizeB n = true := by simp [sizeB, h.1, h.2]
theorem size_no (n : Int) (h : ¬ (1 ≤ n ∧ n ≤ 4096)) : sizeB n = false := by
  unfold sizeB
  by_cases a : 1 ≤ n
  · have b : ¬ n ≤ 4096 := fun b => h ⟨a, b⟩
    simp [b]
  · simp [a]

theorem isSize_c (n : Int) (w : World) :
    Calls Try.prog 30 #[.int .i64 n] w fun e w' => e = .returned (.bool (sizeB n)) ∧ w = w' := by
  unfold sizeB
  by_cases h : 1 ≤ n
  · have hd : decide (1 ≤ n) = true := by simpa using h
    rw [hd, Bool.true_and]
    go_enter Try.func30, Try.ntmps30
    go_wp2
    go_ret
    exact ⟨rfl, rfl⟩
  · have hd : decide (1 ≤ n) = false := by simpa using h
    rw [hd, Bool.false_and]
    go_enter Try.func30, Try.ntmps30
    go_wp2_with (fail)
    go_ret
    exact ⟨rfl, rfl⟩

/-- a ring of that size with the things l: the program's (type t of its struct), or the document's. -/
abbrev Ring (w : World) (n₀ t b size : Nat) (ao : Option Addr) (cap : Nat) (l : List Int) : Prop := Held w n₀ t 3 1 b [.int .i64 size] ao l.length cap (ints l)

end Go.Proofs.Ytfifoikphhjomaa.Rg
