/- What New of layer 8 (cable) returns, and makes; Cut of a cable that is not there; the chapter's example (awake). -/
import Derived.Test.YtfifoikphhjomaaCbCut
namespace Go.Proofs.Ytfifoikphhjomaa.Cb
open Go.RowKit Go.Proofs.Ytfifoikphhjomaa.Rg
set_option linter.unusedVariables false

theorem ccut_nil (w : World) :
    Calls Try.prog 15 #[.pointer none] w fun e w' => e = .returned (.int .i64 0) ∧ w = w' := by
  go_enter Try.func15, Try.ntmps15
  go_wp2_with fail
  go_loopg [3, 5] 2 (fun gk s3 s5 wr => ∃ k : Nat, gk + k = 2 ∧ s3 = .int .i64 0 ∧ s5 = .int .i64 k ∧ wr = w)
  case atStart => exact ⟨0, rfl, rfl, rfl, rfl⟩
  case round =>
    obtain ⟨k, hk, rfl, rfl, rfl⟩ := hrel
    by_cases hk2 : k < 2
    · have d6 : decide ((k : Int) < 2) = true := by simp; omega
      go_wp2_with fail
      go_loopg [3] 0 (fun gj s3 wx => gj = 0 ∧ s3 = .int .i64 0 ∧ wx = wr)
      case atStart => exact ⟨rfl, rfl, rfl⟩
      case round =>
        obtain ⟨hj, rfl, rfl⟩ := hrel
        go_wp2_with fail
        refine (cdrop_nil k 0 _).mono ?_
        rintro e w2 ⟨rfl, rfl⟩
        go_wp2_with fail
        go_roundg (1 - k)
        case measure => omega
        case rel => exact ⟨k + 1, by omega, rfl, by go_num, rfl⟩
    · have e : k = 2 := by omega
      subst e
      go_wp2_with fail
      go_ret
      exact ⟨rfl, rfl⟩

theorem cnew_no (n : Int) (h : ¬ (1 ≤ n ∧ n ≤ 64)) (w : World) :
    Calls Try.prog 7 #[.int .i64 n] w fun e w' => e = .returned (.tuple #[.pointer none, .int .i64 1]) ∧ w = w' := by
  by_cases h0 : n < 1
  · clear h
    go_enter Try.func7, Try.ntmps7
    go_wp2_with fail
    go_ret2
    exact ⟨rfl, rfl⟩
  · have h1 : 64 < n := by omega
    clear h
    go_enter Try.func7, Try.ntmps7
    go_wp2_with fail
    go_ret2
    exact ⟨rfl, rfl⟩

/-- a cable half made: its block names k rings, kr are there. -/
def pt (B k t : Nat) : Value := .pointer (if t < k then some ⟨B + 1 + t, 0, none⟩ else none)
structure NewAt (w wr : World) (n₀ n B k kr : Nat) : Prop where
  block : wr.heap[B]? = some (.cells #[pt B k 0, pt B k 1, .int .i64 0] 49 (0, 0))
  ring : ∀ t, t < kr → SRing wr n₀ (B + 1 + t) n none 0 []
  size : wr.heap.size = B + 1 + kr
  old : Below w.heap.size w wr
theorem NewAt.drewN {w wr : World} {n₀ n B k kr : Nat} (h : NewAt w wr n₀ n B k kr) (q : Nat) : NewAt w (wr.drewN q) n₀ n B k kr := ⟨h.block, fun t ht => (h.ring t ht).drewN q, h.size, h.old.os, h.old.tape, h.old.output, h.old.size, h.old.block⟩
theorem NewAt.cell {w wr : World} {n₀ n B k kr : Nat} (h : NewAt w wr n₀ n B k kr) (hk : k < 2) : wr.cell? ⟨B, k, none⟩ = some (.pointer none) ∧ wr.frozen? ⟨B, k, none⟩ = false := by
  refine ⟨?_, frozen_of_row wr B k _ _ h.block⟩
  rw [cell_of_row wr B k _ _ _ h.block]
  rcases k with _ | _ | k
  · rfl
  · rfl
  · omega
theorem NewAt.begin (w : World) (n₀ n : Nat) : NewAt w (w.alloc (.cells #[.pointer none, .pointer none, .int .i64 0] 49)) n₀ n w.heap.size 0 0 :=
  ⟨heap_alloc_new w _, fun t ht => by omega, by simp, (Below.refl _ w).alloc (Nat.le_refl _) _⟩
theorem NewAt.more {w wr : World} {n₀ n B k : Nat} (h : NewAt w wr n₀ n B k k) (hn : n₀ ≤ B) (hw : w.heap.size ≤ B) : NewAt w (wr.alloc (.cells #[.int .i64 n, .slice none 0 0] 61)) n₀ n B k (k + 1) := by
  have hs := h.size
  refine ⟨(Below.heap_alloc wr _ B (by omega)).trans h.block, ?_, by simp; omega, h.old.alloc h.old.size _⟩
  intro t ht
  by_cases e : t = k
  · subst e
    have := Held.new wr n₀ 61 9 1 [.int .i64 n] (by omega)
    rw [hs] at this
    exact this
  · exact (h.ring t (by omega)).alloc _
theorem NewAt.stored {w wr : World} {n₀ n B k : Nat} (h : NewAt w wr n₀ n B k (k + 1)) (hk : k < 2) (hw : w.heap.size ≤ B) : NewAt w (wr.setCell ⟨B, k, none⟩ (.pointer (some ⟨B + 1 + k, 0, none⟩))) n₀ n B (k + 1) (k + 1) := by
  have hkp : Keeps (fun i => i = B) wr (wr.setCell ⟨B, k, none⟩ (.pointer (some ⟨B + 1 + k, 0, none⟩))) := (Keeps.refl (fun i => i = B) wr).setCell (p := ⟨B, k, none⟩) (fun _ => rfl) _
  refine ⟨?_, ?_, by simp [World.setCell]; exact h.size, h.old.setCell hw _⟩
  · rw [heap_setCell_same wr B k _ _ _ h.block]
    rcases k with _ | _ | k
    · rfl
    · rfl
    · omega
  · intro t ht
    refine (h.ring t ht).keeps hkp ?_
    rintro i (rfl | ⟨a, ha, _⟩) e
    · omega
    · cases ha
theorem NewAt.done {w wr : World} {n₀ n B : Nat} (h : NewAt w wr n₀ n B 2 2) (hn : n₀ ≤ B) : Cab wr n₀ n B (fun t => B + 1 + t) (fun _ => none) (fun _ => 0) ⟨fun _ => [], 0⟩ := by
  refine ⟨h.block, hn, h.ring, ?_⟩
  rintro t s ht hs hne i (rfl | ⟨a, ha, _⟩)
  · rintro (e | ⟨a, ha, _⟩)
    · have e' : B + 1 + t = B + 1 + s := e
      omega
    · cases ha
  · cases ha

set_option maxHeartbeats 1000000 in
theorem cnew_c (n₀ n : Nat) (h : 1 ≤ n ∧ n ≤ 64) (w : World) (hn : n₀ ≤ w.heap.size) :
    Calls Try.prog 7 #[.int .i64 n] w fun e w' => e = .returned (.tuple #[.pointer (some ⟨w.heap.size, 0, none⟩), .int .i64 0]) ∧ Cab w' n₀ n w.heap.size (fun t => w.heap.size + 1 + t) (fun _ => none) (fun _ => 0) ⟨fun _ => [], 0⟩ ∧ Below w.heap.size w w' := by
  have d1 : decide ((n : Int) < 1) = false := by simp; omega
  have d2 : decide (64 < (n : Int)) = false := by simp; omega
  have hn4 : 1 ≤ n ∧ n ≤ 4096 := by omega
  have hb := NewAt.begin w n₀ n
  go_enter Try.func7, Try.ntmps7
  go_wp2_with fail
  generalize w.alloc (.cells #[.pointer none, .pointer none, .int .i64 0] 49) = wb at hb ⊢
  go_loopg [14] 2 (fun gk s14 wr => ∃ k : Nat, gk + k = 2 ∧ s14 = .int .i64 k ∧ NewAt w wr n₀ n w.heap.size k k)
  case atStart => exact ⟨0, rfl, rfl, hb⟩
  case round =>
    obtain ⟨k, hk, rfl, hI⟩ := hrel
    clear hb
    by_cases hk2 : k < 2
    · have i0 : (0 : Int) ≤ (k : Int) := by omega
      have i1 : (k : Int) < 2 := by omega
      have hc := (hI.cell hk2).1
      have Hn : Hid (∀ W, NewAt w W n₀ n w.heap.size k k → Calls Try.prog 17 #[.int .i64 n] W fun e w' => e = .returned (.tuple #[.pointer (some ⟨w.heap.size + 1 + k, 0, none⟩), .int .i64 0]) ∧ NewAt w w' n₀ n w.heap.size k (k + 1)) := by
        intro W hW
        refine (snew_c n hn4 W).mono ?_
        rintro e w' ⟨rfl, rfl⟩
        rw [hW.size]
        exact ⟨rfl, hW.more hn (Nat.le_refl _)⟩
      have Hd : NewAt w wr.drew n₀ n w.heap.size k k := hI.drewN 1
      go_upto_region 7 with (fail)
      go_region_held3 (fun _ => True)
        (first | exact True.intro | go_keep)
        (first | (go_at_call 17; ((with_reducible refine (Hn.out _ Hd).mono ?_); rintro e w1 ⟨rfl, hN1⟩; obtain ⟨hc1, hf1⟩ := hN1.cell hk2)))
      go_wp2_with fail
      go_roundg (1 - k)
      case measure => omega
      case rel => exact ⟨k + 1, by omega, by go_num, hN1.stored hk2 (Nat.le_refl _)⟩
    · have e : k = 2 := by omega
      subst e
      go_wp2_with fail
      go_ret2
      exact ⟨rfl, hI.done hn, hI.old⟩

end Go.Proofs.Ytfifoikphhjomaa.Cb
