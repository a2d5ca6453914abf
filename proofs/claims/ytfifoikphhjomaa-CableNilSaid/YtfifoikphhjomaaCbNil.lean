/- The law CableNil answers true: on a cable that is not there nothing flies. -/
import Derived.Test.YtfifoikphhjomaaCbActs
namespace Go.Proofs.Ytfifoikphhjomaa.Cb
open Go.RowKit Go.Proofs.Ytfifoikphhjomaa.Rg
set_option linter.unusedVariables false

set_option maxRecDepth 100000 in
set_option maxHeartbeats 2000000 in
theorem nil_w (x : Ac) (w : World) :
    Calls Try.prog 5 #[.agg (cellsA x)] w fun e w' => e = .returned (.bool true) ∧ Below w.heap.size w w' := by
  show Calls Try.prog 5 #[.agg #[.int .i64 x.kd, .int .i64 x.dd, .int .i64 x.i, .string x.s, .int .i64 x.at_, .int .u8 x.by_]] w fun e w' => e = .returned (.bool true) ∧ Below w.heap.size w w'
  have ha : ActAt (w.alloc (.cells #[.int .i64 x.kd, .int .i64 x.dd, .int .i64 x.i, .string x.s, .int .i64 x.at_, .int .u8 x.by_] 34)) w.heap.size x := ActAt.new w x
  have hB1 : Below w.heap.size w (w.alloc (.cells #[.int .i64 x.kd, .int .i64 x.dd, .int .i64 x.i, .string x.s, .int .i64 x.at_, .int .u8 x.by_] 34)) := (Below.refl _ w).alloc (Nat.le_refl _) _
  go_enter Try.func5, Try.ntmps5
  go_upto_region 1 with (fail)
  generalize w.alloc (.cells #[.int .i64 x.kd, .int .i64 x.dd, .int .i64 x.i, .string x.s, .int .i64 x.at_, .int .u8 x.by_] 34) = w1 at ha hB1 ⊢
  go_wp2_with fail
  refine (awake_c _).mono ?_
  rintro e w2 ⟨rfl, hB2⟩
  have ha2 := ha.keep (Others.old hB2)
  have hB3 := hB1.trans (hB2.mono hB1.size)
  obtain ⟨a0, a1, a2, a3, a4, a5⟩ := ha2.cell
  clear ha hB1 hB2
  go_wp2_with (first
    | (go_at_call 11; ((with_reducible refine (csend_nil _ _ _).mono ?_); rintro e w' ⟨rfl, rfl⟩))
    | (go_at_call 12; ((with_reducible refine (ctake_nil _ _ _).mono ?_); rintro e w' ⟨rfl, rfl⟩))
    | (go_at_call 13; ((with_reducible refine (ccopy_nil _ _ _).mono ?_); rintro e w3 ⟨rfl, hB4⟩; have ha3 := ha2.keep (Others.old hB4); have hB5 := hB3.trans (hB4.mono hB3.size); obtain ⟨b0, b1, b2, b3, b4, b5⟩ := ha3.cell))
    | (go_at_call 16; ((with_reducible refine (cspoil_nil _ _ _ _ _).mono ?_); rintro e w' ⟨rfl, rfl⟩))
    | (go_at_call 14; ((with_reducible refine (cdrop_nil _ _ _).mono ?_); rintro e w' ⟨rfl, rfl⟩))
    | (go_at_call 9; ((with_reducible refine (flying_nil _ _).mono ?_); rintro e w' ⟨rfl, rfl⟩))
    | (go_at_call 10; ((with_reducible refine (lost_nil _).mono ?_); rintro e w' ⟨rfl, rfl⟩))
    | (go_at_call 15; ((with_reducible refine (ccut_nil _).mono ?_); rintro e w' ⟨rfl, rfl⟩)))
  go_ret
  exact ⟨rfl, hB5⟩

end Go.Proofs.Ytfifoikphhjomaa.Cb
