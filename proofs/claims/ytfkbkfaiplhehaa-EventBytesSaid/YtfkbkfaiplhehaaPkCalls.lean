/- What the functions of layer 6 (pack) that read numbers, and the document's answers for them, return when they are called. -/
import Derived.Test.YtfkbkfaiplhehaaRows
import Derived.WalkKit
import Derived.LoopTactic
import Derived.Laws.BitsLemmas
import Derived.Laws.BitsAllLaws
import Derived.Test.YtfkbkfaiplhehaaFxMath
import Derived.Test.YtfkbkfaiplhehaaPkRunM
namespace Go.Proofs.Ytfkbkfaiplhehaa.Pk
open Go.RowKit Go.Proofs.Ytfkbkfaiplhehaa.Fx

theorem pow_seven (k : Nat) : (128 : Nat) ^ k = 2 ^ (7 * k) := by rw [Nat.pow_mul]
/-- what holds ahead of byte k. -/
def RdTo (s : ByteArray) (k acc : Nat) : Prop := rdN s.data.toList = readN (s.data.toList.drop k) k acc ∧ acc < 128 ^ k ∧ acc < 18446744073709551616
theorem drop_cons (s : ByteArray) (k : Nat) (h : k < s.size) : s.data.toList.drop k = s[k] :: s.data.toList.drop (k + 1) := by
  rw [List.drop_eq_getElem_cons (by simpa using h)]; rfl
theorem RdTo.start (s : ByteArray) : RdTo s 0 0 := ⟨by rw [List.drop_zero]; rfl, by decide, by decide⟩
theorem RdTo.short {s : ByteArray} {k acc : Nat} (h : RdTo s k acc) (hk : ¬ k < s.size) : rdN s.data.toList = (0, 0, 3) := by
  rw [h.1, List.drop_of_length_le (by simp; omega)]; rfl
theorem RdTo.no {s : ByteArray} {k acc : Nat} (h : RdTo s k acc) (hk : k < s.size) (hm : mayB s[k].toNat k = false) : rdN s.data.toList = (0, 0, 4) := by
  rw [h.1, drop_cons s k hk, read_no hm]
theorem may_bd {s : ByteArray} {k acc : Nat} (h : RdTo s k acc) (hk : k < s.size) (hm : mayB s[k].toNat k = true) :
    k ≤ 9 ∧ acc + s[k].toNat % 128 * 128 ^ k < 128 ^ (k + 1) ∧ acc + s[k].toNat % 128 * 128 ^ k < 18446744073709551616 := by
  have hy := (may_iff _ _).1 hm
  have ha := h.2.1
  have bd : acc + s[k].toNat % 128 * 128 ^ k < 128 ^ (k + 1) := by
    have h1 : s[k].toNat % 128 * 128 ^ k ≤ 127 * 128 ^ k := Nat.mul_le_mul_right _ (by omega)
    rw [Nat.pow_succ]; omega
  refine ⟨by omega, bd, ?_⟩
  rcases Nat.lt_or_ge k 9 with h9 | h9
  · have h2 : 128 ^ (k + 1) ≤ 128 ^ 9 := Nat.pow_le_pow_right (by decide) (by omega)
    have h3 : (128 : Nat) ^ 9 < 18446744073709551616 := by decide
    omega
  · obtain rfl : k = 9 := by omega
    have h1 : s[9].toNat % 128 * 128 ^ 9 ≤ 1 * 128 ^ 9 := Nat.mul_le_mul_right _ (by omega)
    have h3 : (128 : Nat) ^ 9 + 128 ^ 9 = 18446744073709551616 := by decide
    omega
theorem RdTo.last {s : ByteArray} {k acc : Nat} (h : RdTo s k acc) (hk : k < s.size) (hm : mayB s[k].toNat k = true) (ht : s[k].toNat < 128) : rdN s.data.toList = (acc + s[k].toNat % 128 * 128 ^ k, k + 1, 0) := by
  rw [h.1, drop_cons s k hk, read_end hm ht]
theorem RdTo.next {s : ByteArray} {k acc : Nat} (h : RdTo s k acc) (hk : k < s.size) (hm : mayB s[k].toNat k = true) (ht : ¬ s[k].toNat < 128) : RdTo s (k + 1) (acc + s[k].toNat % 128 * 128 ^ k) := by
  have hb := may_bd h hk hm
  exact ⟨by rw [h.1, drop_cons s k hk, read_on hm ht], hb.2.1, hb.2.2⟩

/-- the answer of reading a number. -/
def rdV (r : Nat × Nat × Nat) : Value := .tuple #[.int .u64 (r.1 : Int), .int .i64 (r.2.1 : Int), .int .i64 (r.2.2 : Int)]
theorem rd_ret {a : Nat × Nat × Nat} {x y z : Nat} (h : a = (x, y, z)) : Ending.returned (.tuple #[.int .u64 (x : Int), .int .i64 (y : Int), .int .i64 (z : Int)]) = .returned (rdV a) := by rw [h]; rfl

theorem shift_in {s : ByteArray} {k acc : Nat} (h : RdTo s k acc) (hk : k < s.size) (h9 : k ≤ 9) (hb : acc + s[k].toNat % 128 * 128 ^ k < 18446744073709551616) :
    ∃ y z : Nat, Op.shift .shl .u64 ((s[k].toNat : Int) % 128) .i64 (wrap64 (7 * (k : Int))) = pure (.int .u64 (y : Int)) ∧ bits .or .u64 (acc : Int) (y : Int) = (z : Int) ∧ z = acc + s[k].toNat % 128 * 128 ^ k := by
  refine ⟨s[k].toNat % 128 * 128 ^ k, _, ?_, ?_, rfl⟩
  · rw [IntWalk.wrap64_in _ (by omega), shift_shl .u64 .i64 _ _ (by omega) (by show 7 * (k : Int) ≤ 64; omega), IntKind.wrap_u64]
    have e : (7 * (k : Int)).toNat = 7 * k := by omega
    have e2 : ((s[k].toNat : Int) % 128 * 2 ^ (7 * k)) = ((s[k].toNat % 128 * 128 ^ k : Nat) : Int) := by
      rw [pow_seven, Int.natCast_mul, Int.natCast_pow]; rfl
    rw [e, e2]
    congr 2
    omega
  · rw [u64_or_nat _ _ (by omega) (by omega), Nat.or_comm, nat_join (7 * k) _ _ (by rw [← pow_seven]; exact Nat.mul_mod_left _ _) (by rw [← pow_seven]; exact h.2.1), Nat.add_comm]

theorem bits_u64 (a : Nat) (h : a < 18446744073709551616) : IntKind.u64.wrap (a : Int) = (a : Int) := by rw [IntKind.wrap_u64]; omega
/-- the scale at place k, gone round. -/
def scaleN (k : Nat) : Nat := 128 ^ k % 18446744073709551616
theorem scale_next (k : Nat) : IntKind.u64.wrap ((scaleN k : Int) * 128) = (scaleN (k + 1) : Int) := by
  unfold scaleN
  rw [IntKind.wrap_u64, Nat.pow_succ]
  omega
theorem sum_in {s : ByteArray} {k acc : Nat} (hk : k < s.size) (h9 : k ≤ 9) (hb : acc + s[k].toNat % 128 * 128 ^ k < 18446744073709551616) :
    ∃ y z : Nat, IntKind.u64.wrap ((s[k].toNat : Int) % 128 * (scaleN k : Int)) = (y : Int) ∧ IntKind.u64.wrap ((acc : Int) + (y : Int)) = (z : Int) ∧ z = acc + s[k].toNat % 128 * 128 ^ k := by
  have e : scaleN k = 128 ^ k := by
    unfold scaleN
    have h2 : 128 ^ k ≤ 128 ^ 9 := Nat.pow_le_pow_right (by decide) (by omega)
    have h3 : (128 : Nat) ^ 9 < 18446744073709551616 := by decide
    rw [Nat.mod_eq_of_lt (by omega)]
  refine ⟨s[k].toNat % 128 * 128 ^ k, _, ?_, ?_, rfl⟩
  · rw [e, ← bits_u64 (s[k].toNat % 128 * 128 ^ k) (by omega)]
    congr 1
  · rw [← bits_u64 (acc + s[k].toNat % 128 * 128 ^ k) hb]
    congr 1