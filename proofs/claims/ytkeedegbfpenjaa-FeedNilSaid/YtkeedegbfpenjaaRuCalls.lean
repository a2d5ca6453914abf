/- What each call of layer 4's rings of uint8 returns, and what it leaves of the memory: New, Len, Room, At, Last, Push, Take, Pop. -/
import Derived.Test.YtkeedegbfpenjaaRows
import Derived.WalkKit
import Derived.LoopTactic
import Derived.Deep.QuietTactic
import Derived.BigQuiet
import Derived.Deep.RegionLaw
import Derived.Lib.SliceRun
import Derived.Test.YtkeedegbfpenjaaRgWorld
namespace Go.Proofs.Ytkeedegbfpenjaa.Ru
open Rg
open Go.RowKit

/-- the ints of a list, as cells. -/
def ints (l : List Int) : List Value := l.map (Value.int .u8)
theorem ints_len (l : List Int) : (ints l).length = l.length := by simp [ints]
theorem ints_snoc (l : List Int) (x : Int) : ints (l ++ [x]) = ints l ++ [.int .u8 x] := by simp [ints]
theorem ints_append (l k : List Int) : ints (l ++ k) = ints l ++ ints k := by simp [ints]
theorem ints_get (l : List Int) (j : Nat) (h : j < l.length) : (ints l)[j]? = some (.int .u8 (l[j]?.getD 0)) := by simp [ints, h]
theorem ints_one (l : List Int) : ∀ u ∈ ints l, u.oneCell' = true := by
  intro u hu
  obtain ⟨x, _, rfl⟩ := List.mem_map.1 hu
  rfl

/-- a row of ints: its cells. -/
theorem row_cell {w : World} {n₀ e cap : Nat} {ao : Option Addr} {l : List Int} (h : w.ownsRow n₀ e 1 (.slice ao l.length cap) l.length (ints l)) (j : Nat) (hj : j < l.length) :
    ∃ g, ao = some ⟨g, 0, none⟩ ∧ w.cell? ⟨g, j, none⟩ = some (.int .u8 (l[j]?.getD 0)) := by
  rcases h.2 with ⟨h1, h2⟩ | ⟨g, cap', cur, h1, _⟩
  · omega
  · cases h1
    exact ⟨g, rfl, (h.cellAt j (by omega)).trans (ints_get l j hj)⟩

theorem zeros_one (n : Nat) : (Builtin.zeroCells (Value.int .u8 0).cells n).toList = List.replicate n (.int .u8 0) := by
  show (Builtin.zeroCells #[Value.int .u8 0] n).toList = _
  simp [Builtin.zeroCells]
  apply List.ext_getElem
  · simp
  · intro i h1 h2
    simp [Nat.mod_one]

theorem info_u8 : (Try.prog.info? 5).map (fun i => (i.zero, i.size, i.bytes)) = some (some (.int .u8 0), 1, 1) := by kernel_rfl

def sizeB (n : Int) : Bool := decide (1 ≤ n) && decide (n ≤ 4096)
theorem size_yes (n : Int) (h : 1 ≤ n ∧ n ≤ 4096) : sizeB n = true := by simp [sizeB, h.1, h.2]
theorem size_no (n : Int) (h : ¬ (1 ≤ n ∧ n ≤ 4096)) : sizeB n = false := by
  unfold sizeB
  by_cases a : 1 ≤ n
  · have b : ¬ n ≤ 4096 := fun b => h ⟨a, b⟩
    simp [b]
  · simp [a]

theorem isSize_c (n : Int) (w : World) :
    Calls Try.prog 26 #[.int .i64 n] w fun e w' => e = .returned (.bool (sizeB n)) ∧ w = w' := by
  unfold sizeB
  by_cases h : 1 ≤ n
  · have hd : decide (1 ≤ n) = true := by simpa using h
    rw [hd, Bool.true_and]
    go_enter Try.func26, Try.ntmps26
    go_wp2
    go_ret
    exact ⟨rfl, rfl⟩
  · have hd : decide (1 ≤ n) = false := by simpa using h
    rw [hd, Bool.false_and]
    go_enter Try.func26, Try.ntmps26
    go_wp2_with (fail)
    go_ret
    exact ⟨rfl, rfl⟩

/-- a ring of that size with the things l: the program's (type t of its struct), or the document's. -/
abbrev Ring (w : World) (n₀ t b size : Nat) (ao : Option Addr) (cap : Nat) (l : List Int) : Prop := Held w n₀ t 5 1 b [.int .i64 size] ao l.length cap (ints l)

theorem new_c (n : Nat) (h : 1 ≤ n ∧ n ≤ 4096) (w : World) :
    Calls Try.prog 15 #[.int .i64 n] w fun e w' => e = .returned (.tuple #[.pointer (some ⟨w.heap.size, 0, none⟩), .int .i64 0]) ∧ w' = w.alloc (.cells #[.int .i64 n, .slice none 0 0] 53) := by
  have s := hid (size_yes n (by omega))
  go_enter Try.func15, Try.ntmps15
  go_wp2_with (go_at_call 26; ((with_reducible refine (isSize_c _ _).mono ?_); rintro e w' ⟨rfl, rfl⟩; rw [s.out]))
  go_ret2
  exact ⟨rfl, rfl⟩

theorem new_no (n : Int) (h : ¬ (1 ≤ n ∧ n ≤ 4096)) (w : World) :
    Calls Try.prog 15 #[.int .i64 n] w fun e w' => e = .returned (.tuple #[.pointer none, .int .i64 1]) ∧ w = w' := by
  have s := hid (size_no n h)
  go_enter Try.func15, Try.ntmps15
  go_wp2_with (go_at_call 26; ((with_reducible refine (isSize_c _ _).mono ?_); rintro e w' ⟨rfl, rfl⟩; rw [s.out]))
  go_ret2
  exact ⟨rfl, rfl⟩

theorem len_nil (w : World) :
    Calls Try.prog 24 #[.pointer none] w fun e w' => e = .returned (.int .i64 0) ∧ w = w' := by
  go_enter Try.func24, Try.ntmps24
  go_wp2
  go_ret
  exact ⟨rfl, rfl⟩

theorem len_c (b n cap : Nat) (ao : Option Addr) (w : World) (h : w.cell? ⟨b, 1, none⟩ = some (.slice ao n cap)) :
    Calls Try.prog 24 #[.pointer (some ⟨b, 0, none⟩)] w fun e w' => e = .returned (.int .i64 n) ∧ w = w' := by
  go_enter Try.func24, Try.ntmps24
  go_wp2
  go_ret
  exact ⟨rfl, rfl⟩

theorem room_nil (w : World) :
    Calls Try.prog 27 #[.pointer none] w fun e w' => e = .returned (.int .i64 0) ∧ w = w' := by
  go_enter Try.func27, Try.ntmps27
  go_wp2
  go_ret
  exact ⟨rfl, rfl⟩

theorem room_c (b n cap size : Nat) (ao : Option Addr) (w : World) (hs : size ≤ 4096) (hn : n ≤ size) (c0 : w.cell? ⟨b, 0, none⟩ = some (.int .i64 size)) (c1 : w.cell? ⟨b, 1, none⟩ = some (.slice ao n cap)) :
    Calls Try.prog 27 #[.pointer (some ⟨b, 0, none⟩)] w fun e w' => e = .returned (.int .i64 ((size : Int) - n)) ∧ ∃ q, w' = w.drewN q := by
  have hw : IntKind.i64.wrap ((size : Int) - n) = (size : Int) - n := IntWalk.i64_in _ (by omega)
  go_enter Try.func27, Try.ntmps27
  go_wp2_with fail
  go_quiet (fail)
  go_wp2
  go_ret
  exact ⟨rfl, _, rfl⟩

end Go.Proofs.Ytkeedegbfpenjaa.Ru
