/- What each call of layer 4's rings of uint8 returns, and what it leaves of the memory: New, Len, Room, At, Last, Push, Take, Pop. -/
/- Windows as lists of frames and things, rising; where a frame stands (place, with the library's search); plain facts on such lists. -/
/- What the library's search answers on a window's list: how many stand ahead of a frame, and whether it stands there; what place answers. -/
/- What slices.Delete returns at a window's list, and what Get, First, Move and Cut of layer 4's windows return and leave of the memory. -/
import Derived.Test.YtfclnhmijjlhdaaGreatDoorRows
import Derived.WalkKit
import Derived.LoopTactic
import Derived.Deep.QuietTactic
import Derived.BigQuiet
import Derived.Deep.RegionLaw
import Derived.Lib.SliceRun
import Derived.Test.YtfclnhmijjlhdaaGreatDoorJ6
import Derived.Deep.LoopGhost
import Derived.Deep.RegionHeld3
namespace Go.Proofs.YtfclnhmijjlhdaaGreatDoor.Ru
open Rg
set_option maxRecDepth 100000
open Go.RowKit

/-- the ints of a list, as cells. -/
def ints (l : List Int) : List Value := l.map (Value.int .u8)
theorem ints_len (l : List Int) : (ints l).length = l.length := by simp [ints]
theorem ints_snoc (l : List Int) (x : Int) : ints (l ++ [x]) = ints l ++ [.int .u8 x] := by simp [ints]
theorem ints_append (l k : List Int) : ints (l ++ k) = ints l ++ ints k := by simp [ints]
theorem ints_get (l : List Int) (j : Nat) (h : j < l.length) : (ints l)[j]? = some (.int .u8 (l[j]?.getD 0)) := by simp [ints, h]
theorem ints_one (l : List Int) : ∀ u ∈ ints l, u.oneCell' = true := by
 intro u hu
 obtain ⟨x, _, rfl⟩ := List.mem_map.1 hu
 rfl

/-- a row of ints: its cells. -/
theorem row_cell {w : World} {n₀ e cap : Nat} {ao : Option Addr} {l : List Int} (h : w.ownsRow n₀ e 1 (.slice ao l.length cap) l.length (ints l)) (j : Nat) (hj : j < l.length) :
 ∃ g, ao = some ⟨g, 0, none⟩ ∧ w.cell? ⟨g, j, none⟩ = some (.int .u8 (l[j]?.getD 0)) := by
 rcases h.2 with ⟨h1, h2⟩ | ⟨g, cap', cur, h1, _⟩
 · omega
 · cases h1
   exact ⟨g, rfl, (h.cellAt j (by omega)).trans (ints_get l j hj)⟩

theorem zeros_one (n : Nat) : (Builtin.zeroCells (Value.int .u8 0).cells n).toList = List.replicate n (.int .u8 0) := by
 show (Builtin.zeroCells #[Value.int .u8 0] n).toList = _
 simp [Builtin.zeroCells]
 apply List.ext_getElem
 · simp
 · intro i h1 h2
   simp [Nat.mod_one]

theorem info_u8 : (Tryz.prog.info? 5).map (fun i => (i.zero, i.size, i.bytes)) = some (some (.int .u8 0), 1, 1) := by kernel_rfl

def sizeB (n : Int) : Bool := decide (1 ≤ n) && decide (n ≤ 4096)
theorem size_yes (n : Int) (h : 1 ≤ n ∧ n ≤ 4096) : sizeB n = true := by simp [sizeB, h.1, h.2]
theorem size_no (n : Int) (h : ¬ (1 ≤ n ∧ n ≤ 4096)) : sizeB n = false := by
 unfold sizeB
 by_cases a : 1 ≤ n
 · have b : ¬ n ≤ 4096 := fun b => h ⟨a, b⟩
   simp [b]
 · simp [a]

theorem isSize_c (n : Int) (w : World) :
 Calls Tryz.prog 73 #[.int .i64 n] w fun e w' => e = .returned (.bool (sizeB n)) ∧ w = w' := by
 unfold sizeB
 by_cases h : 1 ≤ n
 · have hd : decide (1 ≤ n) = true := by simpa using h
   rw [hd, Bool.true_and]
   go_enter Tryz.func73, Tryz.ntmps73
   go_wp2
   go_ret
   exact ⟨rfl, rfl⟩
 · have hd : decide (1 ≤ n) = false := by simpa using h
   rw [hd, Bool.false_and]
   go_enter Tryz.func73, Tryz.ntmps73
   go_wp2_with (fail)
   go_ret
   exact ⟨rfl, rfl⟩

/-- a ring of that size with the things l: the program's (type t of its struct), or the document's. -/
abbrev Ring (w : World) (n₀ t b size : Nat) (ao : Option Addr) (cap : Nat) (l : List Int) : Prop := Held w n₀ t 5 1 b [.int .i64 size] ao l.length cap (ints l)

theorem new_c (n : Nat) (h : 1 ≤ n ∧ n ≤ 4096) (w : World) :
 Calls Tryz.prog 76 #[.int .i64 n] w fun e w' => e = .returned (.tuple #[.pointer (some ⟨w.heap.size, 0, none⟩), .int .i64 0]) ∧ w' = w.alloc (.cells #[.int .i64 n, .slice none 0 0] 174) := by
 have s := hid (size_yes n (by omega))
 go_enter Tryz.func76, Tryz.ntmps76
 go_wp2_with (go_at_call 73; ((with_reducible refine (isSize_c _ _).mono ?_); rintro e w' ⟨rfl, rfl⟩; rw [s.out]))
 go_ret2
 exact ⟨rfl, rfl⟩

theorem new_no (n : Int) (h : ¬ (1 ≤ n ∧ n ≤ 4096)) (w : World) :
 Calls Tryz.prog 76 #[.int .i64 n] w fun e w' => e = .returned (.tuple #[.pointer none, .int .i64 1]) ∧ w = w' := by
 have s := hid (size_no n h)
 go_enter Tryz.func76, Tryz.ntmps76
 go_wp2_with (go_at_call 73; ((with_reducible refine (isSize_c _ _).mono ?_); rintro e w' ⟨rfl, rfl⟩; rw [s.out]))
 go_ret2
 exact ⟨rfl, rfl⟩

theorem len_nil (w : World) :
 Calls Tryz.prog 118 #[.pointer none] w fun e w' => e = .returned (.int .i64 0) ∧ w = w' := by
 go_enter Tryz.func118, Tryz.ntmps118
 go_wp2
 go_ret
 exact ⟨rfl, rfl⟩

theorem len_c (b n cap : Nat) (ao : Option Addr) (w : World) (h : w.cell? ⟨b, 1, none⟩ = some (.slice ao n cap)) :
 Calls Tryz.prog 118 #[.pointer (some ⟨b, 0, none⟩)] w fun e w' => e = .returned (.int .i64 n) ∧ w = w' := by
 go_enter Tryz.func118, Tryz.ntmps118
 go_wp2
 go_ret
 exact ⟨rfl, rfl⟩

theorem room_nil (w : World) :
 Calls Tryz.prog 124 #[.pointer none] w fun e w' => e = .returned (.int .i64 0) ∧ w = w' := by
 go_enter Tryz.func124, Tryz.ntmps124
 go_wp2
 go_ret
 exact ⟨rfl, rfl⟩

theorem room_c (b n cap size : Nat) (ao : Option Addr) (w : World) (hs : size ≤ 4096) (hn : n ≤ size) (c0 : w.cell? ⟨b, 0, none⟩ = some (.int .i64 size)) (c1 : w.cell? ⟨b, 1, none⟩ = some (.slice ao n cap)) :
 Calls Tryz.prog 124 #[.pointer (some ⟨b, 0, none⟩)] w fun e w' => e = .returned (.int .i64 ((size : Int) - n)) ∧ ∃ q, w' = w.drewN q := by
 have hw : IntKind.i64.wrap ((size : Int) - n) = (size : Int) - n := IntWalk.i64_in _ (by omega)
 go_enter Tryz.func124, Tryz.ntmps124
 go_wp2_with fail
 go_quiet (fail)
 go_wp2
 go_ret
 exact ⟨rfl, _, rfl⟩

end Go.Proofs.YtfclnhmijjlhdaaGreatDoor.Ru

namespace Go.Proofs.YtfclnhmijjlhdaaGreatDoor.Ru
open Rg
open Go.RowKit
set_option linter.unusedVariables false
set_option maxRecDepth 100000

/-- frames and their things, as cells. -/
def prs (l : List (Int × Int)) : List Value := l.flatMap fun p => [.int .i64 p.1, .int .u8 p.2]
theorem prs_nil : prs [] = [] := rfl
theorem prs_cons (p : Int × Int) (l : List (Int × Int)) : prs (p :: l) = .int .i64 p.1 :: .int .u8 p.2 :: prs l := rfl
theorem prs_append (l k : List (Int × Int)) : prs (l ++ k) = prs l ++ prs k := by simp [prs]
theorem prs_len : ∀ l : List (Int × Int), (prs l).length = l.length * 2
 | [] => rfl
 | p :: l => by rw [prs_cons, List.length_cons, List.length_cons, prs_len l, List.length_cons]; omega
theorem prs_one : ∀ l : List (Int × Int), ∀ u ∈ prs l, u.oneCell' = true := by
 intro l u hu
 obtain ⟨p, _, hp⟩ := List.mem_flatMap.1 hu
 simp at hp
 rcases hp with rfl | rfl <;> rfl
theorem prs_get : ∀ (l : List (Int × Int)) (j : Nat) (p : Int × Int), l[j]? = some p → (prs l)[j * 2]? = some (.int .i64 p.1) ∧ (prs l)[j * 2 + 1]? = some (.int .u8 p.2)
 | [], _, _, h => by simp at h
 | q :: l, 0, p, h => by
  simp at h
  subst h
  exact ⟨rfl, rfl⟩
 | q :: l, j + 1, p, h => by
  have := prs_get l j p (by simpa using h)
  rw [prs_cons, show (j + 1) * 2 = j * 2 + 1 + 1 by omega]
  exact ⟨by simpa using this.1, by simpa using this.2⟩
theorem prs_take : ∀ (l : List (Int × Int)) (j : Nat), prs (l.take j) = (prs l).take (j * 2)
 | [], j => by simp [prs]
 | q :: l, 0 => by simp [prs]
 | q :: l, j + 1 => by
  rw [List.take_succ_cons, prs_cons, prs_cons, prs_take l j, show (j + 1) * 2 = j * 2 + 1 + 1 by omega, List.take_succ_cons, List.take_succ_cons]
theorem prs_drop : ∀ (l : List (Int × Int)) (j : Nat), prs (l.drop j) = (prs l).drop (j * 2)
 | [], j => by simp [prs]
 | q :: l, 0 => by simp [prs]
 | q :: l, j + 1 => by
  rw [List.drop_succ_cons, prs_cons, prs_drop l j, show (j + 1) * 2 = j * 2 + 1 + 1 by omega, List.drop_succ_cons, List.drop_succ_cons]

/-- frames rise. -/
def Rising (l : List (Int × Int)) : Prop := l.Pairwise fun a b => a.1 < b.1
/-- how many stand ahead of a frame. -/
def lo (l : List (Int × Int)) (f : Int) : Nat := (l.takeWhile fun p => decide (p.1 < f)).length
theorem lo_le (l : List (Int × Int)) (f : Int) : lo l f ≤ l.length := by
 unfold lo
 exact List.Sublist.length_le (List.takeWhile_sublist _)
theorem lo_cons_yes {p : Int × Int} {l : List (Int × Int)} {f : Int} (h : p.1 < f) : lo (p :: l) f = lo l f + 1 := by simp [lo, h]
theorem lo_cons_no {p : Int × Int} {l : List (Int × Int)} {f : Int} (h : ¬ p.1 < f) : lo (p :: l) f = 0 := by simp [lo, h]
theorem lo_lt : ∀ {l : List (Int × Int)} {f : Int}, Rising l → ∀ (j : Nat) (p : Int × Int), l[j]? = some p → (j < lo l f ↔ p.1 < f)
 | [], _, _, _, _, h => by simp at h
 | q :: l, f, hr, j, p, h => by
  obtain ⟨h1, h2⟩ := List.pairwise_cons.1 hr
  by_cases hq : q.1 < f
  · rw [lo_cons_yes hq]
    cases j with
    | zero => simp at h; subst h; simp [hq]
    | succ j =>
     have := lo_lt (f := f) h2 j p (by simpa using h)
     omega
  · rw [lo_cons_no hq]
    cases j with
    | zero => simp at h; subst h; simp [hq]
    | succ j =>
     have hm : p ∈ l := List.mem_of_getElem? (by simpa using h)
     have := h1 p hm
     omega

/-- a window with the things l. -/
abbrev Win (w : World) (n₀ t e b size : Nat) (first : Int) (ao : Option Addr) (cap : Nat) (l : List (Int × Int)) : Prop := Held w n₀ t e 2 b [.int .i64 size, .int .i64 first] ao l.length cap (prs l)

theorem win_cell {w : World} {n₀ e cap : Nat} {ao : Option Addr} {l : List (Int × Int)} (h : w.ownsRow n₀ e 2 (.slice ao l.length cap) l.length (prs l)) (j : Nat) (p : Int × Int) (hp : l[j]? = some p) :
 ∃ g, ao = some ⟨g, 0, none⟩ ∧ g < w.heap.size ∧ w.cell? ⟨g, j * 2, none⟩ = some (.int .i64 p.1) ∧ w.cell? ⟨g, j * 2 + 1, none⟩ = some (.int .u8 p.2) := by
 have hj : j < l.length := (List.getElem?_eq_some_iff.1 hp).1
 rcases h.2 with ⟨h1, h2⟩ | ⟨g, cap', cur, h1, _, hg, _⟩
 · omega
 · cases h1
   have := prs_get l j p hp
   exact ⟨g, rfl, (Array.getElem?_eq_some_iff.1 hg).1, (h.cellAt (j * 2) (by omega)).trans this.1, (h.cellAt (j * 2 + 1) (by omega)).trans this.2⟩

/-- how one number stands to another one. -/
def cmpI (a b : Int) : Int := if a < b then -1 else if b < a then 1 else 0

theorem nan_c (a : Int) (w : World) :
 Calls Tryz.prog 155 #[.int .i64 a] w fun e w' => e = .returned (.bool false) ∧ w = w' := by
 go_enter Tryz.func155, Tryz.ntmps155
 go_wp2
 go_ret
 exact ⟨rfl, rfl⟩

theorem compare_c (a b : Int) (w : World) :
 Calls Tryz.prog 121 #[.int .i64 a, .int .i64 b] w fun e w' => e = .returned (.int .i64 (cmpI a b)) ∧ w = w' := by
 have h : (a < b ∧ Hid (cmpI a b = -1)) ∨ (¬ a < b ∧ b < a ∧ Hid (cmpI a b = 1)) ∨ (¬ a < b ∧ ¬ b < a ∧ Hid (cmpI a b = 0)) := by
  unfold Hid cmpI
  by_cases h1 : a < b
  · exact .inl ⟨h1, by simp [h1]⟩
  · by_cases h2 : b < a
    · exact .inr (.inl ⟨h1, h2, by simp [h1, h2]⟩)
    · exact .inr (.inr ⟨h1, h2, by simp [h1, h2]⟩)
 rcases h with ⟨h1, h3⟩ | ⟨h1, h2, h3⟩ | ⟨h1, h2, h3⟩
 all_goals
  rw [h3.out]
  go_enter Tryz.func121, Tryz.ntmps121
  go_wp2_with (go_at_call 155; ((with_reducible refine (nan_c _ _).mono ?_); rintro e w' ⟨rfl, rfl⟩))
  go_ret
  exact ⟨rfl, rfl⟩

theorem place1_c (f x y : Int) (w : World) :
 Calls Tryz.prog 164 #[.agg #[.int .i64 f, .int .u8 x], .int .i64 y] w fun e w' => e = .returned (.int .i64 (cmpI f y)) ∧ Below w.heap.size w w' := by
 have hB : Below w.heap.size w (w.alloc (.cells #[.int .i64 f, .int .u8 x] 189)) := (Below.refl _ w).alloc (Nat.le_refl _) _
 go_enter Tryz.func164, Tryz.ntmps164
 go_wp2_with (go_at_call 121; ((with_reducible refine (compare_c _ _ _).mono ?_); rintro e w' ⟨rfl, rfl⟩))
 go_ret
 exact ⟨rfl, hB⟩

end Go.Proofs.YtfclnhmijjlhdaaGreatDoor.Ru

namespace Go.Proofs.YtfclnhmijjlhdaaGreatDoor.Ru
open Rg
open Go.RowKit
set_option linter.unusedVariables false
set_option maxRecDepth 100000

/-- whether a frame has a thing. -/
def hasF (l : List (Int × Int)) (f : Int) : Bool := match l[lo l f]? with | some p => p.1 == f | none => false
theorem hasF_none {l : List (Int × Int)} {f : Int} (h : l[lo l f]? = none) : hasF l f = false := by simp [hasF, h]
theorem hasF_some {l : List (Int × Int)} {f : Int} {p : Int × Int} (h : l[lo l f]? = some p) : hasF l f = (p.1 == f) := by simp [hasF, h]
theorem cmpI_lt (a b : Int) : cmpI a b < 0 ↔ a < b := by unfold cmpI; split <;> (try split) <;> omega
theorem cmpI_eq (a b : Int) : (cmpI a b == 0) = (a == b) := by
 rw [Bool.eq_iff_iff]
 simp only [beq_iff_eq]
 unfold cmpI; split <;> (try split) <;> omega

set_option maxHeartbeats 1000000 in
theorem search_c (n₀ cap : Nat) (ao : Option Addr) (l : List (Int × Int)) (y : Int) (w : World) (h : w.ownsRow n₀ 189 2 (.slice ao l.length cap) l.length (prs l)) (hr : Rising l) (hl : l.length ≤ 4096) :
 Calls Tryz.prog 163 #[.slice ao l.length cap, .int .i64 y, .func (.func 164) #[] #[]] w fun e w' => e = .returned (.tuple #[.int .i64 (lo l y), .bool (hasF l y)]) ∧ Below w.heap.size w w' := by
 have hcell : Hid (∀ W, Below w.heap.size w W → ∀ (j : Nat) (p : Int × Int), l[j]? = some p → ∃ g, ao = some ⟨g, 0, none⟩ ∧ W.cell? ⟨g, j * 2, none⟩ = some (.int .i64 p.1) ∧ W.cell? ⟨g, j * 2 + 1, none⟩ = some (.int .u8 p.2)) := by
  intro W hW j p hp
  obtain ⟨g, e1, e2, e3, e4⟩ := win_cell h j p hp
  exact ⟨g, e1, (hW.cell (p := ⟨g, j * 2, none⟩) e2).trans e3, (hW.cell (p := ⟨g, j * 2 + 1, none⟩) e2).trans e4⟩
 obtain ⟨L, HL⟩ : ∃ L, Hid (lo l y = L) := ⟨_, rfl⟩
 obtain ⟨N, HN⟩ : ∃ N, Hid (l.length = N) := ⟨_, rfl⟩
 have hLN : L ≤ N := by have := lo_le l y; rw [HL.out, HN.out] at this; exact this
 have hN : N ≤ 4096 := by rw [← HN.out]; exact hl
 have hlt : Hid (∀ (j : Nat) (p : Int × Int), l[j]? = some p → (j < L ↔ p.1 < y)) := fun j p hp => by rw [← HL.out]; exact lo_lt hr j p hp
 rw [HL.out, HN.out]
 clear h hr hl
 go_enter Tryz.func163, Tryz.ntmps163
 go_wp2_with fail
 go_loopg [9, 10] N (fun gk a b wr => ∃ i j : Nat, gk = j - i ∧ i ≤ L ∧ L ≤ j ∧ j ≤ N ∧ a = .int .i64 i ∧ b = .int .i64 j ∧ Below w.heap.size w wr)
 case atStart => exact ⟨0, N, by omega, by omega, hLN, by omega, rfl, rfl, Below.refl _ _⟩
 case round =>
  obtain ⟨i, j, hg, hiL, hLj, hjN, rfl, rfl, hB⟩ := hrel
  by_cases hij : i < j
  · obtain ⟨m, hm⟩ : ∃ m, (i + j) / 2 = m := ⟨_, rfl⟩
    have m1 : i ≤ m := by omega
    have m2 : m < j := by omega
    have hmi : ((i : Int) + (j : Int)) / 2 = (m : Int) := by omega
    clear hm
    have m3 : (m : Int) < (N : Int) := by omega
    obtain ⟨p, hp⟩ : ∃ p, l[m]? = some p := ⟨l[m]'(by rw [HN.out]; omega), List.getElem?_eq_getElem _⟩
    obtain ⟨g, rfl, e3, e4⟩ := hcell.out wr hB m p hp
    have hd := hlt.out m p hp
    have HP := hid hp
    clear hp
    by_cases hc : p.1 < y
    · have hmL := hd.2 hc
      have d1 : decide (cmpI p.1 y < 0) = true := by rw [decide_eq_true_iff]; exact (cmpI_lt _ _).2 hc
      clear hd hc
      go_wp2_with (go_at_call 164; ((with_reducible refine (place1_c _ _ _ _).mono ?_); rintro e w5 ⟨rfl, hB5⟩))
      go_roundg (j - (m + 1))
      case measure => omega
      case rel => exact ⟨m + 1, j, rfl, by omega, hLj, hjN, by go_num, rfl, hB.trans (hB5.mono hB.size)⟩
    · have hmL : L ≤ m := by
       rcases Nat.lt_or_ge m L with h | h
       · exact absurd (hd.1 h) hc
       · exact h
      have d1 : decide (cmpI p.1 y < 0) = false := by rw [decide_eq_false_iff_not]; exact fun h => hc ((cmpI_lt _ _).1 h)
      clear hd hc
      go_wp2_with (go_at_call 164; ((with_reducible refine (place1_c _ _ _ _).mono ?_); rintro e w5 ⟨rfl, hB5⟩))
      go_roundg (m - i)
      case measure => omega
      case rel => exact ⟨i, m, rfl, hiL, hmL, by omega, rfl, rfl, hB.trans (hB5.mono hB.size)⟩
  · have hij' : i = L := by omega
    have hjj' : j = L := by omega
    subst hij'
    subst hjj'
    by_cases hin : j < N
    · obtain ⟨p, hp⟩ : ∃ p, l[j]? = some p := ⟨l[j]'(by rw [HN.out]; omega), List.getElem?_eq_getElem _⟩
      obtain ⟨g, rfl, e3, e4⟩ := hcell.out wr hB j p hp
      have hF : Hid (hasF l y = (cmpI p.1 y == 0)) := by
       show _ = _
       rw [hasF_some (by rw [HL.out]; exact hp), cmpI_eq]
      have d1 : decide (j < N) = true := by rw [decide_eq_true_iff]; exact hin
      have m3 : (j : Int) < (N : Int) := by omega
      clear hp hlt
      go_wp2_with (go_at_call 164; ((with_reducible refine (place1_c _ _ _ _).mono ?_); rintro e w5 ⟨rfl, hB5⟩))
      go_ret2
      exact ⟨by rw [hF.out]; rfl, hB.trans (hB5.mono hB.size)⟩
    · have hF : Hid (hasF l y = false) := hasF_none (by rw [HL.out]; exact List.getElem?_eq_none (by rw [HN.out]; omega))
      have d1 : decide (j < N) = false := by rw [decide_eq_false_iff_not]; exact hin
      clear hlt
      go_wp2_with fail
      go_ret2
      exact ⟨by rw [hF.out]; rfl, hB⟩

theorem place_c (i : Int) (n₀ b size cap : Nat) (first : Int) (ao : Option Addr) (l : List (Int × Int)) (w : World) (h : Win w n₀ 177 189 b size first ao cap l) (hr : Rising l) (hl : l.length ≤ 4096) :
 Calls Tryz.prog 134 #[.pointer (some ⟨b, 0, none⟩), .int .i64 i] w fun e w' => e = .returned (.tuple #[.int .i64 (lo l i), .bool (hasF l i)]) ∧ Below w.heap.size w w' := by
 have c2 : w.cell? ⟨b, 2, none⟩ = some (.slice ao l.length cap) := by simpa using h.cell 2
 go_enter Tryz.func134, Tryz.ntmps134
 go_wp2_with (go_at_call 163; ((with_reducible refine (search_c n₀ _ _ _ _ _ h.row hr hl).mono ?_); rintro e w1 ⟨rfl, hB⟩))
 go_ret2
 exact ⟨rfl, hB⟩

end Go.Proofs.YtfclnhmijjlhdaaGreatDoor.Ru

namespace Go.Proofs.YtfclnhmijjlhdaaGreatDoor.Ru
open Rg
open Go.RowKit
set_option linter.unusedVariables false
set_option maxRecDepth 100000

theorem info_framed : (Tryz.prog.info? 189).map (fun i => (i.zero, i.size, i.bytes)) = some (some (.agg #[.int .i64 0, .int .u8 0]), 2, 16) := by kernel_rfl

def zs2 (n : Nat) : List Value := (Builtin.zeroCells (Value.agg #[.int .i64 0, .int .u8 0]).cells n).toList
theorem zeros_two (n : Nat) : (Builtin.zeroCells (Value.agg #[.int .i64 0, .int .u8 0]).cells n).toList = zs2 n := rfl
theorem zs2_len (n : Nat) : (zs2 n).length = n * 2 := by
 show (Builtin.zeroCells #[Value.int .i64 0, Value.int .u8 0] n).toList.length = _
 simp [Builtin.zeroCells]
theorem zs2_one (n : Nat) : ∀ v ∈ zs2 n, v.oneCell' = true := by
 intro v hv
 have hv' : v ∈ (Builtin.zeroCells #[Value.int .i64 0, Value.int .u8 0] n).toList := hv
 obtain ⟨k, hk⟩ := List.mem_iff_getElem?.1 hv'
 have h3 : k % 2 = 0 ∨ k % 2 = 1 := by omega
 obtain ⟨h4, h5⟩ := List.getElem?_eq_some_iff.1 hk
 subst h5
 simp [Builtin.zeroCells]
 rcases h3 with h | h <;> simp [h] <;> rfl

set_option maxHeartbeats 1000000 in
theorem delete2_lt (n₀ g n cap i j : Nat) (xs : List Value) (w : World) (h : w.ownsRow n₀ 189 2 (.slice (some ⟨g, 0, none⟩) n cap) n xs) (h1 : ∀ u ∈ xs, u.oneCell' = true) (hij : i < j) (hj : j ≤ n) (hn : n ≤ 4096) :
 Calls Tryz.prog 136 #[.slice (some ⟨g, 0, none⟩) n cap, .int .i64 i, .int .i64 j] w fun e w' => e = .returned (.slice (some ⟨g, 0, none⟩) (i + (n - j)) cap) ∧
  w'.ownsRow n₀ 189 2 (.slice (some ⟨g, 0, none⟩) (i + (n - j)) cap) (i + (n - j)) (xs.take (i * 2) ++ xs.drop (j * 2)) ∧ w.grownBy w' (some g) := by
 obtain ⟨i0, hi0, hz0, hz1, hz2⟩ := info_parts info_framed
 obtain ⟨hcap, hm⟩ : n ≤ cap ∧ cap ≤ 9223372036854775807 := by
  rcases h.2 with ⟨h', _⟩ | ⟨_, _, _, h', _, _, h2, h3, _⟩
  · simp at h'
  · cases h'; exact ⟨h2, by simpa [maxLen] using h3⟩
 obtain ⟨cur, hg⟩ : ∃ cur, w.heap[g]? = some (.cells cur 189 (0, 0)) := by
  rcases h.2 with ⟨h', _⟩ | ⟨_, _, cur, h', _, hh, _⟩
  · simp at h'
  · cases h'; exact ⟨cur, hh⟩
 obtain ⟨news, hnews⟩ : ∃ news, news = xs.drop (j * 2) := ⟨_, rfl⟩
 have hlen : news.length = (n - j) * 2 := by rw [hnews, List.length_drop, h.1]; omega
 obtain ⟨A, hA, hsrc⟩ : ∃ A : Addr, (if cap = j then some (⟨g, 0, none⟩ : Addr) else some ⟨g, j * 2, none⟩) = some A ∧ Hid (∀ t u, news[t]? = some u → w.drew.cell? (A.add t) = some u) := by
  by_cases hc : cap = j
  · refine ⟨⟨g, 0, none⟩, by simp [hc], fun t u hu => ?_⟩
    have h0 : news.length = 0 := by rw [hlen]; omega
    rw [List.length_eq_zero_iff.1 h0] at hu
    simp at hu
  · refine ⟨⟨g, j * 2, none⟩, by simp [hc], fun t u hu => ?_⟩
    rw [Addr.add_lit]
    exact row_from h (j * 2) t u (by rw [← hnews]; exact hu)
 have s1 : Hid (news.length = (n - j) * 2) := hlen
 have s2 : Hid (∀ u ∈ news, u.oneCell' = true) := fun u hu => h1 u (List.mem_of_mem_drop (by rw [← hnews]; exact hu))
 have s3 : Hid (∀ t, t < news.length → (w.drew.cell? ⟨g, 0 + i * 2 + t, none⟩).isSome = true ∧ w.drew.frozen? ⟨g, 0 + i * 2 + t, none⟩ = false) := by
  intro t ht
  exact row_there h (0 + i * 2 + t) (by rw [hlen] at ht; omega)
 obtain ⟨W1, hW1⟩ : ∃ W1, W1 = w.drew.setCells g (0 + i * 2) news := ⟨_, rfl⟩
 have hcl : ∀ ty, (Builtin.clear_ #[175] ty #[.slice (some ⟨g, (i + (n - j)) * 2, none⟩) (n - (i + (n - j))) (cap - (i + (n - j)))]).run Tryz.prog W1 = .ok (.tuple #[]) (W1.setCells g ((i + (n - j)) * 2) (zs2 (n - (i + (n - j))))) := by
  intro ty
  have ht : ∀ k, k < (n - (i + (n - j))) * 2 → (W1.cell? ⟨g, (i + (n - j)) * 2 + k, none⟩).isSome = true ∧ W1.frozen? ⟨g, (i + (n - j)) * 2 + k, none⟩ = false := by
   intro k hk
   rw [hW1]
   exact there_set (w := w.drew) news (0 + i * 2) _ (row_there h _ (by omega)) cur hg
  refine run_clear_k W1 _ _ ty (.agg #[.int .i64 0, .int .u8 0]) _ Tryz.underlying175 Tryz.zeroValue189 g ((i + (n - j)) * 2) _ _ (by omega) (zeros_two _) (zs2_one _) ?_ ?_
  · intro k hk; exact (ht k (by rw [zs2_len] at hk; exact hk)).1
  · intro k hk; exact (ht k (by rw [zs2_len] at hk; exact hk)).2
 have hW : Hid (W1 = w.drew.setCells g (0 + i * 2) news) := hW1
 have hN : Hid (news = xs.drop (j * 2)) := hnews
 have hO := hid (del_own h (Nat.le_of_lt hij) hj 1 (zs2 (n - (i + (n - j)))) (by rw [zs2_len]; exact congrArg (fun x : Nat => x * 2) (by omega)))
 have hic : i ≤ cap := by omega
 have hjc : j ≤ cap := by omega
 clear hW1 hnews hlen hg h h1
 go_enter Tryz.func136, Tryz.ntmps136
 go_wp2_with fail
 go_region_law (refine step_append_room rfl (.tmp 22) (.tmp 25) 175 rfl 189 i0 2 Tryz.underlying175 hi0 hz1 g 0 i cap (by simp [Act.eval, Act.put]) A (n - j) (cap - j) news (by simp [Act.eval, Act.put]) s1.out hsrc.out s2.out (by omega) s3.out ?_; rw [← hW.out])
 go_wp2
 go_ret
 have := hO.out
 rw [hW.out, hN.out, Nat.zero_add]
 exact ⟨rfl, this⟩

theorem delete2_c (n₀ n cap i j : Nat) (ao : Option Addr) (xs : List Value) (w : World) (h : w.ownsRow n₀ 189 2 (.slice ao n cap) n xs) (h1 : ∀ u ∈ xs, u.oneCell' = true) (hij : i ≤ j) (hj : j ≤ n) (hn : n ≤ 4096) :
 Calls Tryz.prog 136 #[.slice ao n cap, .int .i64 i, .int .i64 j] w fun e w' => e = .returned (.slice ao (i + (n - j)) cap) ∧
  w'.ownsRow n₀ 189 2 (.slice ao (i + (n - j)) cap) (i + (n - j)) (xs.take (i * 2) ++ xs.drop (j * 2)) ∧ w.grownBy w' (Value.ownBlock (.slice ao n cap)) := by
 obtain ⟨hcap, hm⟩ : n ≤ cap ∧ cap ≤ 9223372036854775807 := by
  rcases h.2 with ⟨h', h0⟩ | ⟨_, _, _, h', _, _, h2, h3, _⟩
  · cases h'; exact ⟨by omega, by omega⟩
  · cases h'; exact ⟨h2, by simpa [maxLen] using h3⟩
 by_cases heq : i = j
 · subst heq
   have e1 : i + (n - i) = n := by omega
   rw [e1, List.take_append_drop]
   have hw : Hid (w.ownsRow n₀ 189 2 (.slice ao n cap) n xs) := h
   have h0 : Calls Tryz.prog 136 #[.slice ao n cap, .int .i64 i, .int .i64 i] w fun e w' => e = .returned (.slice ao n cap) ∧ w = w' := by
    rcases h.2 with ⟨h', rfl⟩ | ⟨g, cap', cur, h', _⟩
    · cases h'
      obtain rfl : i = 0 := by omega
      clear h e1 hw
      go_enter Tryz.func136, Tryz.ntmps136
      go_wp2
      go_ret
      exact ⟨rfl, rfl⟩
    · cases h'
      clear h e1 hw
      go_enter Tryz.func136, Tryz.ntmps136
      go_wp2
      all_goals (go_ret; exact ⟨rfl, rfl⟩)
   refine h0.mono ?_
   rintro e w' ⟨rfl, rfl⟩
   exact ⟨rfl, h, ⟨rfl, rfl, rfl, Nat.le_refl _, fun _ _ _ => rfl⟩⟩
 · rcases h.2 with ⟨h', rfl⟩ | ⟨g, cap', cur, h', _⟩
   · omega
   · cases h'
     exact delete2_lt n₀ g n cap i j xs w h h1 (by omega) hj hn

/-- a frame's thing, or 0. -/
def thingI (l : List (Int × Int)) (f : Int) : Int := match l[lo l f]? with | some p => if p.1 == f then p.2 else 0 | none => 0

theorem get_c (i : Int) (n₀ b size cap : Nat) (first : Int) (ao : Option Addr) (l : List (Int × Int)) (w : World) (h : Win w n₀ 177 189 b size first ao cap l) (hr : Rising l) (hl : l.length ≤ 4096) :
 Calls Tryz.prog 90 #[.pointer (some ⟨b, 0, none⟩), .int .i64 i] w fun e w' => e = .returned (.tuple #[.int .u8 (thingI l i), .bool (hasF l i)]) ∧ Below w.heap.size w w' := by
 by_cases hh : hasF l i = true
 · obtain ⟨p, hp⟩ : ∃ p, l[lo l i]? = some p := by
    cases hx : l[lo l i]? with
    | none => rw [hasF_none hx] at hh; cases hh
    | some p => exact ⟨p, rfl⟩
   have hpi : (p.1 == i) = true := by rw [← hasF_some hp]; exact hh
   have ht : thingI l i = p.2 := by simp [thingI, hp, hpi]
   have HH := hid hh
   rw [ht, hh]
   have hlt : lo l i < l.length := (List.getElem?_eq_some_iff.1 hp).1
   clear hh ht hpi
   go_enter Tryz.func90, Tryz.ntmps90
   go_wp2_with fail
   refine (place_c i n₀ b size cap first ao l w h hr hl).mono ?_
   rintro e w1 ⟨rfl, hB⟩
   have h1 := h.old hB
   have c2 : w1.cell? ⟨b, 2, none⟩ = some (.slice ao l.length cap) := by simpa using h1.cell 2
   obtain ⟨g, rfl, _, e3, e4⟩ := win_cell h1.row _ p hp
   rw [HH.out]
   generalize lo l i = k at *
   clear hp
   go_wp2_with fail
   go_ret2
   exact ⟨rfl, hB⟩
 · have hh' : hasF l i = false := by simpa using hh
   have ht : thingI l i = 0 := by
    unfold thingI
    cases hx : l[lo l i]? with
    | none => rfl
    | some p => rw [hasF_some hx] at hh'; simp [hh']
   have HH := hid hh'
   rw [ht, hh']
   clear hh hh' ht
   go_enter Tryz.func90, Tryz.ntmps90
   go_wp2_with fail
   refine (place_c i n₀ b size cap first ao l w h hr hl).mono ?_
   rintro e w1 ⟨rfl, hB⟩
   rw [HH.out]
   go_wp2_with fail
   go_ret2
   exact ⟨rfl, hB⟩

end Go.Proofs.YtfclnhmijjlhdaaGreatDoor.Ru
