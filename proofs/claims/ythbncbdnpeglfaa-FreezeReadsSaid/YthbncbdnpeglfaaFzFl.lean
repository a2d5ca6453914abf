/- Which shots fly, as bits (layer 13, freeze). -/
import Derived.Test.YthbncbdnpeglfaaFzMath
import Derived.Test.YthbncbdnpeglfaaFyGood
namespace Go.Proofs.Ythbncbdnpeglfaa.Fz
open Go.RowKit
open Go.Proofs.Ythbncbdnpeglfaa.Ev (At)
open Go.Proofs.Ythbncbdnpeglfaa.Gm (hid Pl Bu St plC buC stC zeroP zeroB zeroS plS setP shS setS shC shC_len index_sh buV neqB guardB wpList_load_at wpList_store_at)
set_option linter.unusedVariables false

theorem or_bit : ∀ i : Nat, i < 6 → ∀ b : Nat, b < 64 → b < 2 ^ i → bits .or .u8 (b : Int) ((2 ^ i : Nat) : Int) = ((b + 2 ^ i : Nat) : Int) := by decide +kernel
theorem bit_le (x : Bu) : bit x ≤ 1 := by unfold bit; split <;> omega
theorem bitsT_lt (s : St) : ∀ t, bitsT s t < 2 ^ t
  | 0 => Nat.zero_lt_succ 0
  | t + 1 => by
    have h := bitsT_lt s t
    have h1 := bit_le (shS s t)
    have h2 : 2 ^ t * bit (shS s t) ≤ 2 ^ t * 1 := Nat.mul_le_mul (Nat.le_refl _) h1
    show bitsT s t + 2 ^ t * bit (shS s t) < 2 ^ (t + 1)
    rw [Nat.pow_succ]
    omega
theorem sh_self (s : St) : ∀ j v, (shC s)[j]? = some v → ((shC s).toArray)[0 + j]? = some v := by
  intro j v h
  rw [Nat.zero_add]
  exact (List.getElem?_toArray).trans h

set_option maxRecDepth 100000 in
set_option maxHeartbeats 4000000 in
theorem flying_c (s : St) (w : World) :
    Calls Try.prog 36 #[.agg (shC s).toArray] w fun e w' => e = .returned (.int .u8 (bitsN s : Int)) ∧ Below w.heap.size w w' := by
  have HA := hid (At.new w (shC s).toArray 31)
  have HB := hid (Ev.bal (Ev.br w) (.cells (shC s).toArray 31))
  generalize hC : shC s = cs at HA HB
  go_enter Try.func36, Try.ntmps36
  go_upto_region 1 with fail
  subst hC
  generalize World.alloc w _ = w0 at HA HB ⊢
  go_wp2_with (refine wpList_load_at rfl 31 _ rfl w.heap.size 0 rfl 31 _ (shC s) (0, 0) _ HA.out Try.underlying31 rfl (by kernel_rfl) (sh_self s) ?_)
  have HIp := fun k hk w => index_sh s k hk w
  generalize (shC s).toArray = SH at HIp ⊢
  go_loopw [3, 7] (fun b i wr => ∃ k : Nat, k ≤ 6 ∧ i = .int .i64 k ∧ b = .int .u8 (bitsT s k : Int) ∧ Below w.heap.size w wr) (fun _ i _ => 6 - (intOf i).toNat)
  case atStart => exact ⟨0, by decide, rfl, rfl, HB.out⟩
  case round =>
    obtain ⟨k, hk, rfl, rfl, hg⟩ := hrel
    by_cases hlt : k < 6
    · have hk1 : (k : Int) < 6 := by omega
      have hk0 : (0 : Int) ≤ (k : Int) := by omega
      have HI := fun w => HIp k hlt w
      have HG := hid hg
      clear HIp hg
      have hB := bitsT_lt s k
      have hB2 : 2 ^ k ≤ 32 := Nat.pow_le_pow_right (n := 2) (by decide) (show k ≤ 5 by omega)
      have hOr := or_bit k hlt (bitsT s k) (by omega) hB
      have HS : Hid (bitsT s (k + 1) = bitsT s k + 2 ^ k * bit (shS s k)) := hid rfl
      generalize hx : shS s k = x at HI HS
      generalize bitsT s k = bb at hOr HS hB
      have he : ∀ w, (binOp .neq 30 (buV x) (.agg #[.int .i32 0, .int .i32 0, .int .i32 0, .int .i32 0, .int .i64 0, .int .i64 0])).run Try.prog w = .ok (.bool (!decide (x = zeroB))) w := fun w => neqB x zeroB w
      have hg := guardB
      cases hz : decide (x = zeroB)
      · rw [hz] at he
        have hbit : bit x = 1 := if_neg (of_decide_eq_false hz)
        have HV := hid (show bits .or .u8 (bb : Int) ((2 : Int) ^ k % 256) = (bitsT s (k + 1) : Int) by
          rw [show (2 : Int) ^ k % 256 = ((2 ^ k : Nat) : Int) from by rw [show (2 : Int) ^ k = ((2 ^ k : Nat) : Int) from by simp]; omega, hOr, HS.out, hbit, Nat.mul_one])
        clear hOr
        go_wp2_with fail
        go_roundw
        case rel => exact ⟨k + 1, hlt, by go_num, by rw [HV.out], HG.out.alloc (Nat.le_trans (Nat.le_refl _) HG.out.size) _⟩
        case measure => simp [intOf]; omega
      · rw [hz] at he
        have hbit : bit x = 0 := if_pos (of_decide_eq_true hz)
        have HV := hid (show (bb : Int) = (bitsT s (k + 1) : Int) by rw [HS.out, hbit, Nat.mul_zero, Nat.add_zero])
        clear hOr
        go_wp2_with fail
        go_roundw
        case rel => exact ⟨k + 1, hlt, by go_num, by rw [HV.out], HG.out.alloc (Nat.le_trans (Nat.le_refl _) HG.out.size) _⟩
        case measure => simp [intOf]; omega
    · have hk6 : k = 6 := by omega
      subst hk6
      have HG := hid hg
      clear hg HIp
      go_wp2_with fail
      go_ret
      exact ⟨rfl, HG.out⟩
end Go.Proofs.Ythbncbdnpeglfaa.Fz
