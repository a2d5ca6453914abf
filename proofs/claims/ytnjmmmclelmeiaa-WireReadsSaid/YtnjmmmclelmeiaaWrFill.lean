/- What filled of layer 7 (wire) returns. -/
import Derived.Test.YtnjmmmclelmeiaaWrCalls
namespace Go.Proofs.Ytnjmmmclelmeiaa.Wr
open Go.RowKit Go.Proofs.Ytnjmmmclelmeiaa.Fx Go.Proofs.Ytnjmmmclelmeiaa.Pk

set_option maxHeartbeats 1000000 in
theorem filled_c (k a b c d e : Int) (ao : Option Addr) (L cap : Nat) (w : World) :
    Calls Try.prog 25 #[.agg #[.int .i64 k, .int .u32 a, .int .u16 b, .int .u16 c, .slice ao L cap, .int .u32 d, .int .i64 e]] w fun r w' =>
      r = .returned (.int .u64 (fillB (a != 0) (b != 0) (c != 0) (decide (0 < L)) (d != 0) (e != 0))) ∧ w' = w.alloc (.cells #[.int .i64 k, .int .u32 a, .int .u16 b, .int .u16 c, .slice ao L cap, .int .u32 d, .int .i64 e] 26) := by
  generalize h0 : (a != 0) = b0
  generalize h1 : (b != 0) = b1
  generalize h2 : (c != 0) = b2
  generalize h3 : decide (0 < L) = b3
  generalize h4 : (d != 0) = b4
  generalize h5 : (e != 0) = b5
  go_enter Try.func25, Try.ntmps25
  cases b0
  · go_upto_region 4 with fail
    cases b1
    · go_upto_region 6 with fail
      cases b2
      · go_upto_region 8 with fail
        cases b3
        · go_upto_region 10 with fail
          cases b4
          · go_upto_region 12 with fail
            cases b5
            · go_wp2_with fail
              go_ret
              exact ⟨rfl, rfl⟩
            · go_wp2_with fail
              go_ret
              exact ⟨rfl, rfl⟩
          · go_upto_region 12 with fail
            cases b5
            · go_wp2_with fail
              go_ret
              exact ⟨rfl, rfl⟩
            · go_wp2_with fail
              go_ret
              exact ⟨rfl, rfl⟩
        · go_upto_region 10 with fail
          cases b4
          · go_upto_region 12 with fail
            cases b5
            · go_wp2_with fail
              go_ret
              exact ⟨rfl, rfl⟩
            · go_wp2_with fail
              go_ret
              exact ⟨rfl, rfl⟩
          · go_upto_region 12 with fail
            cases b5
            · go_wp2_with fail
              go_ret
              exact ⟨rfl, rfl⟩
            · go_wp2_with fail
              go_ret
              exact ⟨rfl, rfl⟩
      · go_upto_region 8 with fail
        cases b3
        · go_upto_region 10 with fail
          cases b4
          · go_upto_region 12 with fail
            cases b5
            · go_wp2_with fail
              go_ret
              exact ⟨rfl, rfl⟩
            · go_wp2_with fail
              go_ret
              exact ⟨rfl, rfl⟩
          · go_upto_region 12 with fail
            cases b5
            · go_wp2_with fail
              go_ret
              exact ⟨rfl, rfl⟩
            · go_wp2_with fail
              go_ret
              exact ⟨rfl, rfl⟩
        · go_upto_region 10 with fail
          cases b4
          · go_upto_region 12 with fail
            cases b5
            · go_wp2_with fail
              go_ret
              exact ⟨rfl, rfl⟩
            · go_wp2_with fail
              go_ret
              exact ⟨rfl, rfl⟩
          · go_upto_region 12 with fail
            cases b5
            · go_wp2_with fail
              go_ret
              exact ⟨rfl, rfl⟩
            · go_wp2_with fail
              go_ret
              exact ⟨rfl, rfl⟩
    · go_upto_region 6 with fail
      cases b2
      · go_upto_region 8 with fail
        cases b3
        · go_upto_region 10 with fail
          cases b4
          · go_upto_region 12 with fail
            cases b5
            · go_wp2_with fail
              go_ret
              exact ⟨rfl, rfl⟩
            · go_wp2_with fail
              go_ret
              exact ⟨rfl, rfl⟩
          · go_upto_region 12 with fail
            cases b5
            · go_wp2_with fail
              go_ret
              exact ⟨rfl, rfl⟩
            · go_wp2_with fail
              go_ret
              exact ⟨rfl, rfl⟩
        · go_upto_region 10 with fail
          cases b4
          · go_upto_region 12 with fail
            cases b5
            · go_wp2_with fail
              go_ret
              exact ⟨rfl, rfl⟩
            · go_wp2_with fail
              go_ret
              exact ⟨rfl, rfl⟩
          · go_upto_region 12 with fail
            cases b5
            · go_wp2_with fail
              go_ret
              exact ⟨rfl, rfl⟩
            · go_wp2_with fail
              go_ret
              exact ⟨rfl, rfl⟩
      · go_upto_region 8 with fail
        cases b3
        · go_upto_region 10 with fail
          cases b4
          · go_upto_region 12 with fail
            cases b5
            · go_wp2_with fail
              go_ret
              exact ⟨rfl, rfl⟩
            · go_wp2_with fail
              go_ret
              exact ⟨rfl, rfl⟩
          · go_upto_region 12 with fail
            cases b5
            · go_wp2_with fail
              go_ret
              exact ⟨rfl, rfl⟩
            · go_wp2_with fail
              go_ret
              exact ⟨rfl, rfl⟩
        · go_upto_region 10 with fail
          cases b4
          · go_upto_region 12 with fail
            cases b5
            · go_wp2_with fail
              go_ret
              exact ⟨rfl, rfl⟩
            · go_wp2_with fail
              go_ret
              exact ⟨rfl, rfl⟩
          · go_upto_region 12 with fail
            cases b5
            · go_wp2_with fail
              go_ret
              exact ⟨rfl, rfl⟩
            · go_wp2_with fail
              go_ret
              exact ⟨rfl, rfl⟩
  · go_upto_region 4 with fail
    cases b1
    · go_upto_region 6 with fail
      cases b2
      · go_upto_region 8 with fail
        cases b3
        · go_upto_region 10 with fail
          cases b4
          · go_upto_region 12 with fail
            cases b5
            · go_wp2_with fail
              go_ret
              exact ⟨rfl, rfl⟩
            · go_wp2_with fail
              go_ret
              exact ⟨rfl, rfl⟩
          · go_upto_region 12 with fail
            cases b5
            · go_wp2_with fail
              go_ret
              exact ⟨rfl, rfl⟩
            · go_wp2_with fail
              go_ret
              exact ⟨rfl, rfl⟩
        · go_upto_region 10 with fail
          cases b4
          · go_upto_region 12 with fail
            cases b5
            · go_wp2_with fail
              go_ret
              exact ⟨rfl, rfl⟩
            · go_wp2_with fail
              go_ret
              exact ⟨rfl, rfl⟩
          · go_upto_region 12 with fail
            cases b5
            · go_wp2_with fail
              go_ret
              exact ⟨rfl, rfl⟩
            · go_wp2_with fail
              go_ret
              exact ⟨rfl, rfl⟩
      · go_upto_region 8 with fail
        cases b3
        · go_upto_region 10 with fail
          cases b4
          · go_upto_region 12 with fail
            cases b5
            · go_wp2_with fail
              go_ret
              exact ⟨rfl, rfl⟩
            · go_wp2_with fail
              go_ret
              exact ⟨rfl, rfl⟩
          · go_upto_region 12 with fail
            cases b5
            · go_wp2_with fail
              go_ret
              exact ⟨rfl, rfl⟩
            · go_wp2_with fail
              go_ret
              exact ⟨rfl, rfl⟩
        · go_upto_region 10 with fail
          cases b4
          · go_upto_region 12 with fail
            cases b5
            · go_wp2_with fail
              go_ret
              exact ⟨rfl, rfl⟩
            · go_wp2_with fail
              go_ret
              exact ⟨rfl, rfl⟩
          · go_upto_region 12 with fail
            cases b5
            · go_wp2_with fail
              go_ret
              exact ⟨rfl, rfl⟩
            · go_wp2_with fail
              go_ret
              exact ⟨rfl, rfl⟩
    · go_upto_region 6 with fail
      cases b2
      · go_upto_region 8 with fail
        cases b3
        · go_upto_region 10 with fail
          cases b4
          · go_upto_region 12 with fail
            cases b5
            · go_wp2_with fail
              go_ret
              exact ⟨rfl, rfl⟩
            · go_wp2_with fail
              go_ret
              exact ⟨rfl, rfl⟩
          · go_upto_region 12 with fail
            cases b5
            · go_wp2_with fail
              go_ret
              exact ⟨rfl, rfl⟩
            · go_wp2_with fail
              go_ret
              exact ⟨rfl, rfl⟩
        · go_upto_region 10 with fail
          cases b4
          · go_upto_region 12 with fail
            cases b5
            · go_wp2_with fail
              go_ret
              exact ⟨rfl, rfl⟩
            · go_wp2_with fail
              go_ret
              exact ⟨rfl, rfl⟩
          · go_upto_region 12 with fail
            cases b5
            · go_wp2_with fail
              go_ret
              exact ⟨rfl, rfl⟩
            · go_wp2_with fail
              go_ret
              exact ⟨rfl, rfl⟩
      · go_upto_region 8 with fail
        cases b3
        · go_upto_region 10 with fail
          cases b4
          · go_upto_region 12 with fail
            cases b5
            · go_wp2_with fail
              go_ret
              exact ⟨rfl, rfl⟩
            · go_wp2_with fail
              go_ret
              exact ⟨rfl, rfl⟩
          · go_upto_region 12 with fail
            cases b5
            · go_wp2_with fail
              go_ret
              exact ⟨rfl, rfl⟩
            · go_wp2_with fail
              go_ret
              exact ⟨rfl, rfl⟩
        · go_upto_region 10 with fail
          cases b4
          · go_upto_region 12 with fail
            cases b5
            · go_wp2_with fail
              go_ret
              exact ⟨rfl, rfl⟩
            · go_wp2_with fail
              go_ret
              exact ⟨rfl, rfl⟩
          · go_upto_region 12 with fail
            cases b5
            · go_wp2_with fail
              go_ret
              exact ⟨rfl, rfl⟩
            · go_wp2_with fail
              go_ret
              exact ⟨rfl, rfl⟩
end Go.Proofs.Ytnjmmmclelmeiaa.Wr
