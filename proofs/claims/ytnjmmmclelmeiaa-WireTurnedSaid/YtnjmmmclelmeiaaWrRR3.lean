/- What the document's Right of layer 7 (wire) returns at kind 3. -/
import Derived.Test.YtnjmmmclelmeiaaWrRR
namespace Go.Proofs.Ytnjmmmclelmeiaa.Wr
open Go.RowKit Go.Proofs.Ytnjmmmclelmeiaa.Fx Go.Proofs.Ytnjmmmclelmeiaa.Pk

set_option maxRecDepth 100000 in
set_option maxHeartbeats 8000000 in
theorem rright_k3 (n s a u : Nat) (l : List UInt8) (d : Int) (ao : Option Addr) (L cap : Nat) (w : World) (hr : Rd w (.slice ao L cap) l) :
    Calls Try.prog 10 #[.agg (cellsD ⟨3, n, s, a, l, u, d⟩ (.slice ao L cap))] w fun e w' => e = .returned (.bool (rightB ⟨3, n, s, a, l, u, d⟩)) ∧ w' = w.alloc (.cells (cellsD ⟨3, n, s, a, l, u, d⟩ (.slice ao L cap)) 26) := by
  have HF := hid (rfits_c (.slice ao L cap) l (w.alloc (.cells (cellsD ⟨3, n, s, a, l, u, d⟩ (.slice ao L cap)) 26)) (hr.below (box_below w _)))
  rw [right_RB 3 n s a u l d L (by omega) (by obtain ⟨_, _, _, e, h1, _⟩ := hr; cases e; exact h1)]
  generalize fitB l = f at HF
  generalize hlo : decide (d < -1000) = lo
  generalize hhi : decide (1000 < d) = hi
  generalize h0 : ((n : Int) != 0) = b0
  generalize h1 : ((s : Int) != 0) = b1
  generalize h2 : ((a : Int) != 0) = b2
  generalize h3 : decide (0 < L) = b3
  generalize h4 : ((u : Int) == 0) = z4
  generalize h5 : (d == 0) = z5
  clear hr
  cases f with
  | true =>
    cases lo with
    | true =>
      go_enter Try.func10, Try.ntmps10
      go_wp2_with (go_at_call 28; ((with_reducible refine HF.out.mono ?_); rintro e w' ⟨rfl, rfl⟩))
      go_ret
      first | exact ⟨rfl, rfl⟩ | exact ⟨ret_bool (by simp [RB]), rfl⟩
    | false =>
      cases hi with
      | true =>
        go_enter Try.func10, Try.ntmps10
        go_wp2_with (go_at_call 28; ((with_reducible refine HF.out.mono ?_); rintro e w' ⟨rfl, rfl⟩))
        go_ret
        first | exact ⟨rfl, rfl⟩ | exact ⟨ret_bool (by simp [RB]), rfl⟩
      | false =>
        go_enter Try.func10, Try.ntmps10
        go_upto_region 4 with (go_at_call 28; ((with_reducible refine HF.out.mono ?_); rintro e w' ⟨rfl, rfl⟩))
        cases b0 with
        | true =>
          go_wp2_with fail
          go_ret
          first | exact ⟨rfl, rfl⟩ | exact ⟨ret_bool (by simp [RB]), rfl⟩
        | false =>
          cases b1 with
          | true =>
            cases b2 with
            | true =>
              go_upto_region 6 with fail
              cases b3 with
              | true =>
                cases z4 with
                | true =>
                  cases z5 with
                  | true =>
                    go_wp2_with fail
                    go_ret
                    first | exact ⟨rfl, rfl⟩ | exact ⟨ret_bool (by simp [RB]), rfl⟩
                  | false =>
                    go_wp2_with fail
                    go_ret
                    first | exact ⟨rfl, rfl⟩ | exact ⟨ret_bool (by simp [RB]), rfl⟩
                | false =>
                  go_wp2_with fail
                  go_ret
                  first | exact ⟨rfl, rfl⟩ | exact ⟨ret_bool (by simp [RB]), rfl⟩
              | false =>
                go_wp2_with fail
                go_ret
                first | exact ⟨rfl, rfl⟩ | exact ⟨ret_bool (by simp [RB]), rfl⟩
            | false =>
              go_upto_region 6 with fail
              cases b3 with
              | true =>
                cases z4 with
                | true =>
                  cases z5 with
                  | true =>
                    go_wp2_with fail
                    go_ret
                    first | exact ⟨rfl, rfl⟩ | exact ⟨ret_bool (by simp [RB]), rfl⟩
                  | false =>
                    go_wp2_with fail
                    go_ret
                    first | exact ⟨rfl, rfl⟩ | exact ⟨ret_bool (by simp [RB]), rfl⟩
                | false =>
                  go_wp2_with fail
                  go_ret
                  first | exact ⟨rfl, rfl⟩ | exact ⟨ret_bool (by simp [RB]), rfl⟩
              | false =>
                go_wp2_with fail
                go_ret
                first | exact ⟨rfl, rfl⟩ | exact ⟨ret_bool (by simp [RB]), rfl⟩
          | false =>
            cases b2 with
            | true =>
              go_upto_region 6 with fail
              cases b3 with
              | true =>
                cases z4 with
                | true =>
                  cases z5 with
                  | true =>
                    go_wp2_with fail
                    go_ret
                    first | exact ⟨rfl, rfl⟩ | exact ⟨ret_bool (by simp [RB]), rfl⟩
                  | false =>
                    go_wp2_with fail
                    go_ret
                    first | exact ⟨rfl, rfl⟩ | exact ⟨ret_bool (by simp [RB]), rfl⟩
                | false =>
                  go_wp2_with fail
                  go_ret
                  first | exact ⟨rfl, rfl⟩ | exact ⟨ret_bool (by simp [RB]), rfl⟩
              | false =>
                go_wp2_with fail
                go_ret
                first | exact ⟨rfl, rfl⟩ | exact ⟨ret_bool (by simp [RB]), rfl⟩
            | false =>
              go_upto_region 6 with fail
              cases b3 with
              | true =>
                cases z4 with
                | true =>
                  cases z5 with
                  | true =>
                    go_wp2_with fail
                    go_ret
                    first | exact ⟨rfl, rfl⟩ | exact ⟨ret_bool (by simp [RB]), rfl⟩
                  | false =>
                    go_wp2_with fail
                    go_ret
                    first | exact ⟨rfl, rfl⟩ | exact ⟨ret_bool (by simp [RB]), rfl⟩
                | false =>
                  go_wp2_with fail
                  go_ret
                  first | exact ⟨rfl, rfl⟩ | exact ⟨ret_bool (by simp [RB]), rfl⟩
              | false =>
                go_wp2_with fail
                go_ret
                first | exact ⟨rfl, rfl⟩ | exact ⟨ret_bool (by simp [RB]), rfl⟩
  | false =>
    go_enter Try.func10, Try.ntmps10
    go_wp2_with (go_at_call 28; ((with_reducible refine HF.out.mono ?_); rintro e w' ⟨rfl, rfl⟩))
    go_ret
    first | exact ⟨rfl, rfl⟩ | exact ⟨ret_bool (by simp [RB]), rfl⟩

end Go.Proofs.Ytnjmmmclelmeiaa.Wr
