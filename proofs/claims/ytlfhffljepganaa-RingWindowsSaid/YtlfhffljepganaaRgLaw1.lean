/- The chapter's example (awake) answers true; what is taken off on both sides (played) is the same. -/
import Derived.Test.YtlfhffljepganaaRgTake
import Derived.Test.YtlfhffljepganaaRgRef
namespace Go.Proofs.Ytlfhffljepganaa.Rg
open Go.RowKit
set_option linter.unusedVariables false

theorem new_ring (n₀ n : Nat) (h : 1 ≤ n ∧ n ≤ 4096) (w : World) (hn : n₀ ≤ w.heap.size) :
    Calls Try.prog 8 #[.int .i64 n] w fun e w' => e = .returned (.tuple #[.pointer (some ⟨w.heap.size, 0, none⟩), .int .i64 0]) ∧ Ring w' n₀ 60 w.heap.size n none 0 [] ∧ Below w.heap.size w w' :=
  (new_c n h w).mono fun e w' ⟨he, hw⟩ => ⟨he, by rw [hw]; exact Held.new w n₀ 60 3 1 [.int .i64 n] hn, by rw [hw]; exact (Below.refl _ w).alloc (Nat.le_refl _) _⟩

set_option maxHeartbeats 1000000 in
theorem awake_c (w : World) :
    Calls Try.prog 7 #[] w fun e w' => e = .returned (.bool true) ∧ Below w.heap.size w w' := by
  go_enter Try.func7, Try.ntmps7
  go_wp2_with fail
  refine (new_ring w.heap.size 2 (by omega) _ (Nat.le_refl _)).mono ?_
  rintro e w1 ⟨rfl, h0, hB0⟩
  go_wp2_with fail
  refine (push_c 1 w.heap.size _ 2 _ _ [] _ h0 (by omega) (by simp) hB0.size).mono ?_
  rintro e w2 ⟨rfl, ao2, cap2, h2, -, hk2⟩
  have hB2 := hB0.trans (hk2.below hB0.size h0.footGe)
  go_wp2_with fail
  refine (push_c 2 w.heap.size _ 2 _ _ _ _ h2 (by omega) (by simp) hB2.size).mono ?_
  rintro e w3 ⟨rfl, ao3, cap3, h3, -, hk3⟩
  have hB3 := hB2.trans (hk3.below hB2.size h2.footGe)
  go_wp2_with fail
  refine (push_full 3 w.heap.size _ 2 _ _ _ _ h3 (by omega) (by simp)).mono ?_
  rintro e w4 ⟨rfl, q, rfl⟩
  have hB4 : Below w.heap.size w (w3.drewN q) := ⟨hB3.os, hB3.tape, hB3.output, hB3.size, hB3.block⟩
  go_wp2_with fail
  refine (pop_c w.heap.size _ 2 _ _ _ _ (h3.drewN q) (by simp)).mono ?_
  rintro e w5 ⟨rfl, ao5, cap5, h5, -, hk5⟩
  have hB5 := hB4.trans (hk5.below hB4.size (h3.drewN q).footGe)
  rw [show atI (([] : List Int) ++ [1] ++ [2]) 0 = 1 from rfl, show atB (([] : List Int) ++ [1] ++ [2]) 0 = true from rfl]
  go_wp2_with fail
  go_ret
  exact ⟨rfl, hB5⟩

end Go.Proofs.Ytlfhffljepganaa.Rg
