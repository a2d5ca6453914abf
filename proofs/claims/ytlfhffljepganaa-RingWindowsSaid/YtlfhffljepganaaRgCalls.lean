/- What each call of layer 4's rings, and of its document's answers, returns, and what it leaves of the memory: New, Len, Room, At, Last, Push, Take, Pop; the document's Push, Take and Ints. -/
import Derived.Test.YtlfhffljepganaaRows
import Derived.WalkKit
import Derived.LoopTactic
import Derived.Deep.QuietTactic
import Derived.BigQuiet
import Derived.Deep.RegionLaw
import Derived.Lib.SliceRun
import Derived.Test.YtlfhffljepganaaRgWorld
namespace Go.Proofs.Ytlfhffljepganaa.Rg
open Go.RowKit

theorem info_int : (Try.prog.info? 3).map (fun i => (i.zero, i.size, i.bytes)) = some (some (.int .i64 0), 1, 8) := by kernel_rfl

def sizeB (n : Int) : Bool := decide (1 ≤ n) && decide (n ≤ 4096)
theorem size_yes (n : Int) (h : 1 ≤ n ∧ n ≤ 4096) : sizeB n = true := by simp [sizeB, h.1, h.2]
theorem size_no (n : Int) (h : ¬ (1 ≤ n ∧ n ≤ 4096)) : sizeB n = false := by
  unfold sizeB
  by_cases a : 1 ≤ n
  · have b : ¬ n ≤ 4096 := fun b => h ⟨a, b⟩
    simp [b]
  · simp [a]

theorem isSize_c (n : Int) (w : World) :
    Calls Try.prog 30 #[.int .i64 n] w fun e w' => e = .returned (.bool (sizeB n)) ∧ w = w' := by
  unfold sizeB
  by_cases h : 1 ≤ n
  · have hd : decide (1 ≤ n) = true := by simpa using h
    rw [hd, Bool.true_and]
    go_enter Try.func30, Try.ntmps30
    go_wp2
    go_ret
    exact ⟨rfl, rfl⟩
  · have hd : decide (1 ≤ n) = false := by simpa using h
    rw [hd, Bool.false_and]
    go_enter Try.func30, Try.ntmps30
    go_wp2_with (fail)
    go_ret
    exact ⟨rfl, rfl⟩

/-- a ring of that size with the things l: the program's (type t of its struct), or the document's. -/
abbrev Ring (w : World) (n₀ t b size : Nat) (ao : Option Addr) (cap : Nat) (l : List Int) : Prop := Held w n₀ t 3 1 b [.int .i64 size] ao l.length cap (ints l)

theorem new_c (n : Nat) (h : 1 ≤ n ∧ n ≤ 4096) (w : World) :
    Calls Try.prog 8 #[.int .i64 n] w fun e w' => e = .returned (.tuple #[.pointer (some ⟨w.heap.size, 0, none⟩), .int .i64 0]) ∧ w' = w.alloc (.cells #[.int .i64 n, .slice none 0 0] 60) := by
  have s := hid (size_yes n (by omega))
  go_enter Try.func8, Try.ntmps8
  go_wp2_with (go_at_call 30; ((with_reducible refine (isSize_c _ _).mono ?_); rintro e w' ⟨rfl, rfl⟩; rw [s.out]))
  go_ret2
  exact ⟨rfl, rfl⟩

theorem new_no (n : Int) (h : ¬ (1 ≤ n ∧ n ≤ 4096)) (w : World) :
    Calls Try.prog 8 #[.int .i64 n] w fun e w' => e = .returned (.tuple #[.pointer none, .int .i64 1]) ∧ w = w' := by
  have s := hid (size_no n h)
  go_enter Try.func8, Try.ntmps8
  go_wp2_with (go_at_call 30; ((with_reducible refine (isSize_c _ _).mono ?_); rintro e w' ⟨rfl, rfl⟩; rw [s.out]))
  go_ret2
  exact ⟨rfl, rfl⟩

theorem len_nil (w : World) :
    Calls Try.prog 14 #[.pointer none] w fun e w' => e = .returned (.int .i64 0) ∧ w = w' := by
  go_enter Try.func14, Try.ntmps14
  go_wp2
  go_ret
  exact ⟨rfl, rfl⟩

theorem len_c (b n cap : Nat) (ao : Option Addr) (w : World) (h : w.cell? ⟨b, 1, none⟩ = some (.slice ao n cap)) :
    Calls Try.prog 14 #[.pointer (some ⟨b, 0, none⟩)] w fun e w' => e = .returned (.int .i64 n) ∧ w = w' := by
  go_enter Try.func14, Try.ntmps14
  go_wp2
  go_ret
  exact ⟨rfl, rfl⟩

theorem room_nil (w : World) :
    Calls Try.prog 15 #[.pointer none] w fun e w' => e = .returned (.int .i64 0) ∧ w = w' := by
  go_enter Try.func15, Try.ntmps15
  go_wp2
  go_ret
  exact ⟨rfl, rfl⟩

theorem room_c (b n cap size : Nat) (ao : Option Addr) (w : World) (hs : size ≤ 4096) (hn : n ≤ size) (c0 : w.cell? ⟨b, 0, none⟩ = some (.int .i64 size)) (c1 : w.cell? ⟨b, 1, none⟩ = some (.slice ao n cap)) :
    Calls Try.prog 15 #[.pointer (some ⟨b, 0, none⟩)] w fun e w' => e = .returned (.int .i64 ((size : Int) - n)) ∧ ∃ q, w' = w.drewN q := by
  have hw : IntKind.i64.wrap ((size : Int) - n) = (size : Int) - n := IntWalk.i64_in _ (by omega)
  go_enter Try.func15, Try.ntmps15
  go_wp2_with fail
  go_quiet (fail)
  go_wp2
  go_ret
  exact ⟨rfl, _, rfl⟩

end Go.Proofs.Ytlfhffljepganaa.Rg
