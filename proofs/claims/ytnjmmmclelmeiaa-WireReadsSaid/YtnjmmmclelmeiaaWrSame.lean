/- Whether two datagrams are told alike: what Same of layer 7 (wire), and the document's, return. -/
import Derived.Test.YtnjmmmclelmeiaaWrEq
namespace Go.Proofs.Ytnjmmmclelmeiaa.Wr
open Go.RowKit Go.Proofs.Ytnjmmmclelmeiaa.Fx Go.Proofs.Ytnjmmmclelmeiaa.Pk

/-- the same datagram? -/
def sameB (a b : Dg) : Bool := (a.kind == b.kind) && ((a.nonce : Int) == (b.nonce : Int)) && ((a.serial : Int) == (b.serial : Int)) && ((a.ack : Int) == (b.ack : Int)) && decide (a.inputs = b.inputs) && ((a.sum : Int) == (b.sum : Int)) && (a.lead == b.lead)
theorem same_iff (a b : Dg) : sameB a b = true ↔ a = b := by
  obtain ⟨k, n, s, c, l, u, d⟩ := a
  obtain ⟨k', n', s', c', l', u', d'⟩ := b
  unfold sameB
  simp only [Bool.and_eq_true, beq_iff_eq, decide_eq_true_eq, Dg.mk.injEq, Int.natCast_inj]
  constructor
  · rintro ⟨⟨⟨⟨⟨⟨h1, h2⟩, h3⟩, h4⟩, h5⟩, h6⟩, h7⟩; exact ⟨h1, h2, h3, h4, h5, h6, h7⟩
  · rintro ⟨h1, h2, h3, h4, h5, h6, h7⟩; exact ⟨⟨⟨⟨⟨⟨h1, h2⟩, h3⟩, h4⟩, h5⟩, h6⟩, h7⟩
theorem same_yes (a : Dg) : sameB a a = true := (same_iff a a).2 rfl
theorem same_no {a b : Dg} (h : a ≠ b) : sameB a b = false := by
  cases hs : sameB a b with
  | true => exact absurd ((same_iff a b).1 hs) h
  | false => rfl

set_option maxHeartbeats 4000000 in
theorem wsame_c (v u : Value) (a b : Dg) (w : World) (h : Holds w v a) (h' : Holds w u b) :
    Calls Try.prog 16 #[v, u] w fun e w' => e = .returned (.bool (sameB a b)) ∧ Below w.heap.size w w' := by
  obtain ⟨ao, L, cap, rfl, hr, hi⟩ := h
  obtain ⟨ao', L', cap', rfl, hr', hi'⟩ := h'
  have hbb := bt (box_below w (.cells (cellsD a (.slice ao L cap)) 26)) (box_below _ (.cells (cellsD b (.slice ao' L' cap')) 26))
  have HS := hid (equal_c _ _ _ _ _ (hr.below hbb) (hr'.below hbb))
  unfold sameB
  clear hbb hr hr' hi hi'
  cases h0 : (a.kind == b.kind) with
  | false =>
    simp only [Bool.false_and]
    go_enter Try.func16, Try.ntmps16
    go_wp2_with fail
    go_ret
    refine ⟨rfl, ?_⟩
    repeat (first | exact Below.refl _ _ | apply bdrew | apply bdrew1 | apply ball)
  | true =>
    cases h1 : ((a.nonce : Int) == (b.nonce : Int)) with
    | false =>
      simp only [Bool.false_and, Bool.true_and]
      go_enter Try.func16, Try.ntmps16
      go_wp2_with fail
      go_ret
      refine ⟨rfl, ?_⟩
      repeat (first | exact Below.refl _ _ | apply bdrew | apply bdrew1 | apply ball)
    | true =>
      cases h2 : ((a.serial : Int) == (b.serial : Int)) with
      | false =>
        simp only [Bool.false_and, Bool.true_and]
        go_enter Try.func16, Try.ntmps16
        go_wp2_with fail
        go_ret
        refine ⟨rfl, ?_⟩
        repeat (first | exact Below.refl _ _ | apply bdrew | apply bdrew1 | apply ball)
      | true =>
        cases h3 : ((a.ack : Int) == (b.ack : Int)) with
        | false =>
          simp only [Bool.false_and, Bool.true_and]
          go_enter Try.func16, Try.ntmps16
          go_wp2_with fail
          go_ret
          refine ⟨rfl, ?_⟩
          repeat (first | exact Below.refl _ _ | apply bdrew | apply bdrew1 | apply ball)
        | true =>
          cases h4 : decide (a.inputs = b.inputs) with
          | false =>
            rw [h4] at HS
            simp only [Bool.false_and, Bool.true_and]
            go_enter Try.func16, Try.ntmps16
            go_wp2_with (go_at_call 37; ((with_reducible refine HS.out.mono ?_); rintro e w' ⟨rfl, q, rfl⟩))
            go_ret
            refine ⟨rfl, ?_⟩
            repeat (first | exact Below.refl _ _ | apply bdrew | apply bdrew1 | apply ball)
          | true =>
            rw [h4] at HS
            cases h5 : ((a.sum : Int) == (b.sum : Int)) with
            | false =>
              simp only [Bool.false_and, Bool.true_and]
              go_enter Try.func16, Try.ntmps16
              go_wp2_with (go_at_call 37; ((with_reducible refine HS.out.mono ?_); rintro e w' ⟨rfl, q, rfl⟩))
              go_ret
              refine ⟨rfl, ?_⟩
              repeat (first | exact Below.refl _ _ | apply bdrew | apply bdrew1 | apply ball)
            | true =>
              cases h6 : (a.lead == b.lead) with
              | false =>
                simp only [Bool.and_false]
                go_enter Try.func16, Try.ntmps16
                go_wp2_with (go_at_call 37; ((with_reducible refine HS.out.mono ?_); rintro e w' ⟨rfl, q, rfl⟩))
                go_ret
                refine ⟨rfl, ?_⟩
                repeat (first | exact Below.refl _ _ | apply bdrew | apply bdrew1 | apply ball)
              | true =>
                simp only [Bool.and_true]
                go_enter Try.func16, Try.ntmps16
                go_wp2_with (go_at_call 37; ((with_reducible refine HS.out.mono ?_); rintro e w' ⟨rfl, q, rfl⟩))
                go_ret
                refine ⟨rfl, ?_⟩
                repeat (first | exact Below.refl _ _ | apply bdrew | apply bdrew1 | apply ball)

set_option maxHeartbeats 4000000 in
theorem rsame_c (v u : Value) (a b : Dg) (w : World) (h : Holds w v a) (h' : Holds w u b) :
    Calls Try.prog 13 #[v, u] w fun e w' => e = .returned (.bool (sameB a b)) ∧ Below w.heap.size w w' := by
  obtain ⟨ao, L, cap, rfl, hr, hi⟩ := h
  obtain ⟨ao', L', cap', rfl, hr', hi'⟩ := h'
  have hbb := bt (box_below w (.cells (cellsD a (.slice ao L cap)) 26)) (box_below _ (.cells (cellsD b (.slice ao' L' cap')) 26))
  have HS := hid (same06_c _ _ _ _ _ (hr.below hbb) (hr'.below hbb))
  unfold sameB
  clear hbb hr hr' hi hi'
  cases h0 : (a.kind == b.kind) with
  | false =>
    simp only [Bool.false_and]
    go_enter Try.func13, Try.ntmps13
    go_wp2_with fail
    go_ret
    refine ⟨rfl, ?_⟩
    repeat (first | exact Below.refl _ _ | apply bdrew | apply bdrew1 | apply ball)
  | true =>
    cases h1 : ((a.nonce : Int) == (b.nonce : Int)) with
    | false =>
      simp only [Bool.false_and, Bool.true_and]
      go_enter Try.func13, Try.ntmps13
      go_wp2_with fail
      go_ret
      refine ⟨rfl, ?_⟩
      repeat (first | exact Below.refl _ _ | apply bdrew | apply bdrew1 | apply ball)
    | true =>
      cases h2 : ((a.serial : Int) == (b.serial : Int)) with
      | false =>
        simp only [Bool.false_and, Bool.true_and]
        go_enter Try.func13, Try.ntmps13
        go_wp2_with fail
        go_ret
        refine ⟨rfl, ?_⟩
        repeat (first | exact Below.refl _ _ | apply bdrew | apply bdrew1 | apply ball)
      | true =>
        cases h3 : ((a.ack : Int) == (b.ack : Int)) with
        | false =>
          simp only [Bool.false_and, Bool.true_and]
          go_enter Try.func13, Try.ntmps13
          go_wp2_with fail
          go_ret
          refine ⟨rfl, ?_⟩
          repeat (first | exact Below.refl _ _ | apply bdrew | apply bdrew1 | apply ball)
        | true =>
          cases h4 : decide (a.inputs = b.inputs) with
          | false =>
            rw [h4] at HS
            simp only [Bool.false_and, Bool.true_and]
            go_enter Try.func13, Try.ntmps13
            go_wp2_with (go_at_call 34; ((with_reducible refine HS.out.mono ?_); rintro e w' ⟨rfl, q, rfl⟩))
            go_ret
            refine ⟨rfl, ?_⟩
            repeat (first | exact Below.refl _ _ | apply bdrew | apply bdrew1 | apply ball)
          | true =>
            rw [h4] at HS
            cases h5 : ((a.sum : Int) == (b.sum : Int)) with
            | false =>
              simp only [Bool.false_and, Bool.true_and]
              go_enter Try.func13, Try.ntmps13
              go_wp2_with (go_at_call 34; ((with_reducible refine HS.out.mono ?_); rintro e w' ⟨rfl, q, rfl⟩))
              go_ret
              refine ⟨rfl, ?_⟩
              repeat (first | exact Below.refl _ _ | apply bdrew | apply bdrew1 | apply ball)
            | true =>
              cases h6 : (a.lead == b.lead) with
              | false =>
                simp only [Bool.and_false]
                go_enter Try.func13, Try.ntmps13
                go_wp2_with (go_at_call 34; ((with_reducible refine HS.out.mono ?_); rintro e w' ⟨rfl, q, rfl⟩))
                go_ret
                refine ⟨rfl, ?_⟩
                repeat (first | exact Below.refl _ _ | apply bdrew | apply bdrew1 | apply ball)
              | true =>
                simp only [Bool.and_true]
                go_enter Try.func13, Try.ntmps13
                go_wp2_with (go_at_call 34; ((with_reducible refine HS.out.mono ?_); rintro e w' ⟨rfl, q, rfl⟩))
                go_ret
                refine ⟨rfl, ?_⟩
                repeat (first | exact Below.refl _ _ | apply bdrew | apply bdrew1 | apply ball)

end Go.Proofs.Ytnjmmmclelmeiaa.Wr
