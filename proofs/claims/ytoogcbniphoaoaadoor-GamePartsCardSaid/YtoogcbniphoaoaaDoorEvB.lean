/- Which key stands ahead, as the program and as the document asks it (layer 11, event). -/
import Derived.Test.YtoogcbniphoaoaaDoorEvWorld
import Derived.LoopN
namespace Go.Proofs.YtoogcbniphoaoaaDoor.Ev
open Go.RowKit
set_option linter.unusedVariables false

theorem nan_c (a : Int) (w : World) :
    Calls Tryd.prog 88 #[.int .i64 a] w fun e w' => e = .returned (.bool false) ∧ w = w' := by
  go_enter Tryd.func88, Tryd.ntmps88
  go_wp2
  go_ret
  exact ⟨rfl, rfl⟩

theorem ccompare_c (a b : Int) (w : World) :
    Calls Tryd.prog 86 #[.int .i64 a, .int .i64 b] w fun e w' => e = .returned (.int .i64 (cmpI a b)) ∧ w = w' := by
  have h : (a < b ∧ Hid (cmpI a b = -1)) ∨ (¬ a < b ∧ b < a ∧ Hid (cmpI a b = 1)) ∨ (¬ a < b ∧ ¬ b < a ∧ Hid (cmpI a b = 0)) := by
    unfold Hid cmpI
    by_cases h1 : a < b
    · exact .inl ⟨h1, by simp [h1]⟩
    · by_cases h2 : b < a
      · exact .inr (.inl ⟨h1, h2, by simp [h1, h2]⟩)
      · exact .inr (.inr ⟨h1, h2, by simp [h1, h2]⟩)
  rcases h with ⟨h1, h3⟩ | ⟨h1, h2, h3⟩ | ⟨h1, h2, h3⟩
  all_goals
    rw [h3.out]
    go_enter Tryd.func86, Tryd.ntmps86
    go_wp2_with (go_at_call 88; ((with_reducible refine (nan_c _ _).mono ?_); rintro e w' ⟨rfl, rfl⟩))
    go_ret
    exact ⟨rfl, rfl⟩

set_option maxHeartbeats 1000000 in
theorem or_c (a0 a1 a2 a3 : Int) (b : Nat) (T : TypeId) (w : World) (h : At w b #[.int .i64 a0, .int .i64 a1, .int .i64 a2, .int .i64 a3] T) :
    Calls Tryd.prog 85 #[.slice (some ⟨b, 0, none⟩) 4 4] w fun e w' => e = .returned (.int .i64 (orI a0 (orI a1 (orI a2 a3)))) ∧ w = w' := by
  obtain ⟨e0, e1, e2, e3⟩ := h.four
  clear h
  by_cases h0 : a0 = 0
  case neg =>
    rw [show orI a0 (orI a1 (orI a2 a3)) = a0 by simp [orI, h0]]
    go_enter Tryd.func85, Tryd.ntmps85
    go_wp2
    refine wp_loop_rounds 4 ?_
    rw [rounds_succ]; go_wp2
    go_ret
    exact ⟨rfl, rfl⟩
  subst h0
  by_cases h1 : a1 = 0
  case neg =>
    rw [show orI 0 (orI a1 (orI a2 a3)) = a1 by simp [orI, h1]]
    go_enter Tryd.func85, Tryd.ntmps85
    go_wp2
    refine wp_loop_rounds 4 ?_
    rw [rounds_succ]; go_wp2
    rw [rounds_succ]; go_wp2
    go_ret
    exact ⟨rfl, rfl⟩
  subst h1
  by_cases h2 : a2 = 0
  case neg =>
    rw [show orI 0 (orI 0 (orI a2 a3)) = a2 by simp [orI, h2]]
    go_enter Tryd.func85, Tryd.ntmps85
    go_wp2
    refine wp_loop_rounds 4 ?_
    rw [rounds_succ]; go_wp2
    rw [rounds_succ]; go_wp2
    rw [rounds_succ]; go_wp2
    go_ret
    exact ⟨rfl, rfl⟩
  subst h2
  by_cases h3 : a3 = 0
  case neg =>
    rw [show orI 0 (orI 0 (orI 0 a3)) = a3 by simp [orI]]
    go_enter Tryd.func85, Tryd.ntmps85
    go_wp2
    refine wp_loop_rounds 4 ?_
    rw [rounds_succ]; go_wp2
    rw [rounds_succ]; go_wp2
    rw [rounds_succ]; go_wp2
    rw [rounds_succ]; go_wp2
    go_ret
    exact ⟨rfl, rfl⟩
  subst h3
  go_enter Tryd.func85, Tryd.ntmps85
  go_wp2
  refine wp_loop_rounds 5 ?_
  rw [rounds_succ]; go_wp2
  rw [rounds_succ]; go_wp2
  rw [rounds_succ]; go_wp2
  rw [rounds_succ]; go_wp2
  rw [rounds_succ]; go_wp2
  go_ret
  exact ⟨rfl, rfl⟩

set_option maxRecDepth 100000 in
set_option maxHeartbeats 1000000 in
theorem compare_c (x y : Ky) (w : World) :
    Calls Tryd.prog 79 #[kv x, kv y] w fun e w' => e = .returned (.int .i64 (cmpK x y)) ∧ Gr w w' := by
  unfold cmpK
  have HA := hid (At.new w (kcs x).toArray 43)
  have HB := hid (At.new (w.alloc (.cells (kcs x).toArray 43)) (kcs y).toArray 43)
  go_enter Tryd.func79, Tryd.ntmps79
  go_wp2_with fail
  go_region_held3 (fun W => W.cell? ⟨w.heap.size, 0, none⟩ = some (.int .i64 x.f) ∧ W.cell? ⟨w.heap.size, 1, none⟩ = some (.int .i64 x.e) ∧ W.cell? ⟨w.heap.size, 2, none⟩ = some (.int .i64 x.k) ∧ W.cell? ⟨w.heap.size, 3, none⟩ = some (.int .i64 x.o) ∧ W.cell? ⟨w.heap.size + 1, 0, none⟩ = some (.int .i64 y.f) ∧ W.cell? ⟨w.heap.size + 1, 1, none⟩ = some (.int .i64 y.e) ∧ W.cell? ⟨w.heap.size + 1, 2, none⟩ = some (.int .i64 y.k) ∧ W.cell? ⟨w.heap.size + 1, 3, none⟩ = some (.int .i64 y.o)) (go_keep)
    (first
    | (go_at_call 86; ((with_reducible refine (ccompare_c _ _ _).mono ?_); rintro e w' ⟨rfl, rfl⟩))
    | (go_at_call 85; ((with_reducible refine (or_c _ _ _ _ (w.heap.size + 1 + 1) 3 _ (At.drew (At.newAt _ _ _ (by simp)))).mono ?_); rintro e w' ⟨rfl, rfl⟩)))
  go_wp2_with fail
  go_returns
  exact ⟨rfl, ((((Gr.refl w).alloc _).alloc _).alloc _).drew⟩

set_option maxRecDepth 100000 in
theorem place1_c (x : Ev) (k : Ky) (w : World) :
    Calls Tryd.prog 78 #[ev x, kv k] w fun e w' => e = .returned (.int .i64 (cmpK x.key k)) ∧ Gr w w' := by
  go_enter Tryd.func78, Tryd.ntmps78
  go_wp2_with (go_at_call 79; ((with_reducible refine (compare_c x.key k _).mono ?_); rintro e w' ⟨rfl, hg⟩))
  go_ret
  exact ⟨rfl, gt (gal (gal (gr w) _) _) hg⟩

end Go.Proofs.YtoogcbniphoaoaaDoor.Ev
