/- What each function of layer 2 (trig), and each of its document's answers, returns when it is called with any numbers of its parameters' kinds; no function here changes the memory. -/
import Derived.Test.YthbncbdnpeglfaaRows
import Derived.WalkKit
import Derived.LoopTactic
import Derived.Laws.BitsLemmas
import Derived.Test.YthbncbdnpeglfaaFxCalls
import Derived.Test.YthbncbdnpeglfaaTgMath
namespace Go.Proofs.Ythbncbdnpeglfaa.Tg
open Go.RowKit Go.Proofs.Ythbncbdnpeglfaa.Fx

/-- the lowest 16 bits of a number with a sign are its rest by 65536. -/
theorem and_turn (n : Int) : bits .and .i64 n 65535 = n % 65536 := by
  have h1 : (BitVec.ofInt 64 65535).toNat = 2 ^ 16 - 1 := by decide
  have h2 : (BitVec.ofInt 64 n &&& BitVec.ofInt 64 65535).toNat = (n % ((2 ^ 64 : Nat) : Int)).toNat % 2 ^ 16 := by
    rw [BitVec.toNat_and, BitVec.toNat_ofInt, h1, Nat.and_two_pow_sub_one_eq_mod]
  show IntKind.i64.wrap ((BitVec.ofInt 64 n &&& BitVec.ofInt 64 65535).toNat : Nat) = n % 65536
  rw [h2, IntKind.wrap_i64]
  omega

/-- the half turn's part of an angle, and on which side it lies, in the document's own reckoning. -/
theorem wave_side (a m x : Int) (hm : m = a % 65536) (hx : x = m % 32768) : waveI a = if 32768 ≤ m then -hillI x else hillI x := by
  subst hm
  by_cases h : 32768 ≤ a % 65536
  · rw [if_pos h, wave_hi a (by omega), hx, show a % 65536 % 32768 = a % 65536 - 32768 by omega]
  · rw [if_neg h, wave_lo a (by omega), hx, show a % 65536 % 32768 = a % 65536 by omega]
theorem tmod_up (a : Int) (h : a.tmod 65536 < 0) : a.tmod 65536 + 65536 = a % 65536 := by
  have := Int.mul_tdiv_add_tmod a 65536
  have := tmod_bd a 65536 (by omega)
  omega
theorem tmod_same (a : Int) (h : 0 ≤ a.tmod 65536) : a.tmod 65536 = a % 65536 := by
  have := Int.mul_tdiv_add_tmod a 65536
  have := tmod_bd a 65536 (by omega)
  omega
theorem tmod_none (a : Int) (h0 : a < 0) (h : 0 ≤ a.tmod 65536) : a.tmod 65536 = 0 ∧ a.tmod 32768 = 0 := by
  have h1 := Int.tmod_nonneg 65536 (show 0 ≤ -a by omega)
  rw [Int.neg_tmod] at h1
  have h2 := Int.mul_tdiv_add_tmod a 65536
  have e : a = 32768 * (2 * a.tdiv 65536) := by omega
  have h3 : a.tmod 32768 = 0 := Int.tmod_eq_zero_of_dvd ⟨_, e⟩
  exact ⟨by omega, h3⟩

theorem root_yes (n r b : Int) (k : Nat) (hb : b = 2 ^ k) (hu : n < (r + (b + b)) * (r + (b + b))) (ht : r + (b + b) ≤ 4294967296) : n < (r + b + 2 ^ k) * (r + b + 2 ^ k) ∧ r + b + 2 ^ k ≤ 4294967296 := by
  subst hb
  rw [Int.add_assoc]
  exact ⟨hu, ht⟩
theorem root_no (n r b : Int) (k : Nat) (hb : b = 2 ^ k) (hu : n < (r + b) * (r + b)) (ht : r + (b + b) ≤ 4294967296) : n < (r + 2 ^ k) * (r + 2 ^ k) ∧ r + 2 ^ k ≤ 4294967296 := by
  subst hb
  have := pow_nn k
  exact ⟨hu, by omega⟩

theorem sqs_bd (x y : Int) (hx : -2147483648 ≤ x ∧ x ≤ 2147483647) (hy : -2147483648 ≤ y ∧ y ≤ 2147483647) : 0 ≤ sqsI x y ∧ sqsI x y < 18446744073709551616 := by
  have h1 := sq32 x hx
  have h2 := sq32 y hy
  unfold sqsI
  omega

/-- one part of a step of a speed. -/
def stepI (x l s : Int) : Int := if l = 0 then 0 else divI (satI (x * s / 65536)) l
theorem step_0 (x l s : Int) (h : l = 0) : stepI x l s = 0 := by unfold stepI; rw [if_pos h]
theorem step_1 (x l s : Int) (h : ¬ l = 0) : stepI x l s = divI (satI (x * s / 65536)) l := by unfold stepI; rw [if_neg h]

end Go.Proofs.Ythbncbdnpeglfaa.Tg
