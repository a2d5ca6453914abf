/- The chapter's example, and the law FeedNil: a feed that is not there knows nothing. -/
import Derived.Test.YtkeedegbfpenjaaFdWrong
namespace Go.Proofs.Ytkeedegbfpenjaa.Fd
open Go.RowKit Go.Proofs.Ytkeedegbfpenjaa.Rg
set_option linter.unusedVariables false

theorem from_nil (f : Int) (w : World) :
    Calls Try.prog 14 #[.pointer none, .int .i64 f] w fun e w' => e = .returned (.slice none 0 0) ∧ w = w' := by
  go_enter Try.func14, Try.ntmps14
  go_wp2_with fail
  go_ret
  exact ⟨rfl, rfl⟩

def ex1 : Fd := putM newF 0 5
def ex2 : Fd := takeM ex1 1
def ex3 : Fd := putM ex2 1 6
theorem ex_vals : putE newF 0 5 = 0 ∧ takeV ex1 1 = 5 ∧ (takeB ex1 1 && decide (isTk ex1 1)) = false ∧ putE ex2 1 6 = 0 ∧ wrongV ex3 = 1 ∧ (wrong ex3).isSome = true := by decide

/-- a call that leaves the feed, said of what lay ahead of all of it. -/
theorem Left.at {n₀ b : Nat} {F : Nat → Prop} {m' : Fd} {w0 w w' : World} (h : Left n₀ b F m' w w') (hF : ∀ i, F i → w0.heap.size ≤ i) (hB : Below w0.heap.size w0 w) : ∃ F', Fed w' n₀ b F' m' ∧ (∀ i, F' i → w0.heap.size ≤ i) ∧ Below w0.heap.size w0 w' := by
  obtain ⟨F', h1, h2⟩ := h.ex
  have hs := hB.size
  refine ⟨F', h1, fun i hi => ?_, hB.trans (h.keeps.below hs hF)⟩
  rcases h2 i hi with h3 | h3
  · exact hF i h3
  · omega

theorem awake_c (w : World) :
    Calls Try.prog 5 #[] w fun e w' => e = .returned (.bool true) ∧ Below w.heap.size w w' := by
  obtain ⟨v1, v2, v3, v4, v5, v6⟩ := ex_vals
  have V1 := hid v1
  have V2 := hid v2
  have V3 := hid v3
  have V4 := hid v4
  have V5 := hid v5
  have V6 := hid v6
  have HN := hid (new_c w.heap.size w (Nat.le_refl _))
  clear v1 v2 v3 v4 v5 v6
  go_enter Try.func5, Try.ntmps5
  go_wp2_with fail
  refine HN.out.mono ?_
  rintro e w1 ⟨b, rfl, F, h1, hF1, hB1⟩
  go_wp2_with fail
  refine (put_c 0 5 _ b F _ w1 h1 (by decide)).mono ?_
  rintro e w2 ⟨rfl, hL⟩
  obtain ⟨F2, h2, hF2, hB2⟩ := hL.at hF1 hB1
  clear hL
  rw [V1.out]
  go_wp2_with fail
  refine (take_c 1 _ b F2 ex1 w2 h2).mono ?_
  rintro e w3 ⟨rfl, hL⟩
  obtain ⟨F3, h3, hF3, hB3⟩ := hL.at hF2 hB2
  clear hL
  rw [V2.out, V3.out]
  go_wp2_with fail
  refine (put_c 1 6 _ b F3 ex2 w3 h3 (by decide)).mono ?_
  rintro e w4 ⟨rfl, hL⟩
  obtain ⟨F4, h4, hF4, hB4⟩ := hL.at hF3 hB3
  clear hL
  rw [V4.out]
  go_wp2_with fail
  refine (wrong_c _ b F4 ex3 w4 h4).mono ?_
  rintro e w5 ⟨rfl, hB⟩
  rw [V5.out, V6.out]
  have hB5 := hB4.trans (hB.mono hB4.size)
  clear hB
  go_wp2_with fail
  go_ret
  exact ⟨rfl, hB5⟩

set_option maxRecDepth 100000 in
set_option maxHeartbeats 2000000 in
theorem nil_w (f a : Int) (w : World) :
    Calls Try.prog 4 #[.int .i64 f, .int .u8 a] w fun e w' => e = .returned (.bool true) ∧ Below w.heap.size w w' := by
  go_enter Try.func4, Try.ntmps4
  go_wp2_with (first
    | (go_at_call 5; ((with_reducible refine (awake_c _).mono ?_); rintro e w1 ⟨rfl, hB1⟩))
    | (go_at_call 11; ((with_reducible refine (known_nil _ _).mono ?_); rintro e w' ⟨rfl, rfl⟩))
    | (go_at_call 8; ((with_reducible refine (take_nil _ _).mono ?_); rintro e w' ⟨rfl, rfl⟩))
    | (go_at_call 10; ((with_reducible refine (wrong_nil _).mono ?_); rintro e w' ⟨rfl, rfl⟩))
    | (go_at_call 7; ((with_reducible refine (put_nil _ _ _).mono ?_); rintro e w' ⟨rfl, rfl⟩))
    | (go_at_call 13; ((with_reducible refine (next_nil _).mono ?_); rintro e w' ⟨rfl, rfl⟩))
    | (go_at_call 14; ((with_reducible refine (from_nil _ _).mono ?_); rintro e w' ⟨rfl, rfl⟩))
    | (go_at_call 9; ((with_reducible refine (trim_nil _ _).mono ?_); rintro e w' ⟨rfl, rfl⟩))
    | (go_at_call 12; ((with_reducible refine (first_nil _).mono ?_); rintro e w' ⟨rfl, rfl⟩)))
  go_ret
  exact ⟨rfl, hB1⟩

end Go.Proofs.Ytkeedegbfpenjaa.Fd
