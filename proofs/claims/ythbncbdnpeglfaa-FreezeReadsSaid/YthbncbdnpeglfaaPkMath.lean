/- Plain facts on layer 6 (pack): the bytes of a number, reading one, the bytes of a run of inputs, reading one; what is told is read as it was, what is read is told by these bytes. Nothing of the program is in this text. -/
import Derived.WalkKit
namespace Go.Proofs.Ythbncbdnpeglfaa.Pk

/-- the bytes of a number. -/
def numL (n : Nat) : List UInt8 := if h : n < 128 then [UInt8.ofNat n] else UInt8.ofNat (n % 128 + 128) :: numL (n / 128)
termination_by n
decreasing_by omega
theorem num_lt {n : Nat} (h : n < 128) : numL n = [UInt8.ofNat n] := by rw [numL, dif_pos h]
theorem num_ge {n : Nat} (h : ¬ n < 128) : numL n = UInt8.ofNat (n % 128 + 128) :: numL (n / 128) := by rw [numL, dif_neg h]
theorem num_pos (n : Nat) : 0 < (numL n).length := by
  by_cases h : n < 128
  · rw [num_lt h]; simp
  · rw [num_ge h]; simp
theorem num_len : ∀ (k n : Nat), n < 128 ^ (k + 1) → (numL n).length ≤ k + 1
  | 0, n, h => by rw [num_lt (by simpa using h)]; simp
  | k + 1, n, h => by
    by_cases c : n < 128
    · rw [num_lt c]; simp
    · rw [num_ge c, List.length_cons]
      have := num_len k (n / 128) (by rw [Nat.pow_succ] at h; exact Nat.div_lt_of_lt_mul (by rw [Nat.mul_comm]; exact h))
      omega
theorem num_len10 (n : Nat) (h : n < 18446744073709551616) : (numL n).length ≤ 10 := num_len 9 n (Nat.lt_of_lt_of_le h (by decide))

/-- may a number have the byte c at place i? -/
def mayB (c : Nat) (i : Nat) : Bool := !(decide (9 < i) || (i == 9 && decide (1 < c % 128))) && (c != 0 || i == 0)
/-- the number read of bytes, those ahead of place i being told by acc; how many bytes; the error. -/
def readN : List UInt8 → Nat → Nat → Nat × Nat × Nat
  | [], _, _ => (0, 0, 3)
  | c :: l, i, acc => if mayB c.toNat i then (if c.toNat < 128 then (acc + c.toNat % 128 * 128 ^ i, i + 1, 0) else readN l (i + 1) (acc + c.toNat % 128 * 128 ^ i)) else (0, 0, 4)
def rdN (l : List UInt8) : Nat × Nat × Nat := readN l 0 0

theorem read_no {c : UInt8} {l : List UInt8} {i acc : Nat} (h : mayB c.toNat i = false) : readN (c :: l) i acc = (0, 0, 4) := by rw [readN, if_neg (by rw [h]; decide)]
theorem read_end {c : UInt8} {l : List UInt8} {i acc : Nat} (h : mayB c.toNat i = true) (hc : c.toNat < 128) : readN (c :: l) i acc = (acc + c.toNat % 128 * 128 ^ i, i + 1, 0) := by rw [readN, if_pos h, if_pos hc]
theorem read_on {c : UInt8} {l : List UInt8} {i acc : Nat} (h : mayB c.toNat i = true) (hc : ¬ c.toNat < 128) : readN (c :: l) i acc = readN l (i + 1) (acc + c.toNat % 128 * 128 ^ i) := by rw [readN, if_pos h, if_neg hc]

theorem byte_nat (n : Nat) (h : n < 256) : (UInt8.ofNat n).toNat = n := by simp; omega
theorem may_iff (c i : Nat) : mayB c i = true ↔ (¬ 9 < i ∧ ¬ (i = 9 ∧ 1 < c % 128)) ∧ (c ≠ 0 ∨ i = 0) := by
  unfold mayB; simp; omega

/-- what is told is read as it was, whatever stands behind. -/
theorem read_num : ∀ (m i acc : Nat) (b : List UInt8), (i = 0 ∨ m ≠ 0) → 128 ^ i * m < 18446744073709551616 → readN (numL m ++ b) i acc = (acc + 128 ^ i * m, i + (numL m).length, 0)
  | m, i, acc, b, h0, hm => by
    have hi : m ≠ 0 → i ≤ 9 ∧ (i = 9 → m ≤ 1) := by
      intro hz
      have h1 : 128 ^ i ≤ 128 ^ i * m := Nat.le_mul_of_pos_right _ (by omega)
      constructor
      · apply Nat.le_of_not_lt
        intro hi
        have h2 : 128 ^ 10 ≤ 128 ^ i := Nat.pow_le_pow_right (by decide) (by omega)
        have h3 : (18446744073709551616 : Nat) < 128 ^ 10 := by decide
        omega
      · rintro rfl
        have h3 : (128 : Nat) ^ 9 * 2 = 18446744073709551616 := by decide
        apply Nat.le_of_not_lt
        intro hm2
        have := Nat.mul_le_mul_left (128 ^ 9) (show 2 ≤ m by omega)
        omega
    by_cases c : m < 128
    · rw [num_lt c]
      have hb := byte_nat m (by omega)
      rw [List.cons_append, read_end (by rw [hb, may_iff]; omega) (by rw [hb]; exact c), hb, Nat.mod_eq_of_lt c, Nat.mul_comm m]
      rfl
    · have hb := byte_nat (m % 128 + 128) (by omega)
      have hi' := hi (by omega)
      have i8 : i ≤ 8 := by
        rcases Nat.lt_or_ge i 9 with h | h
        · omega
        · have := hi'.2 (by omega); omega
      have e : 128 ^ i * m = 128 ^ i * (m % 128) + 128 ^ (i + 1) * (m / 128) := by
        rw [Nat.pow_succ, Nat.mul_assoc, ← Nat.mul_add]
        congr 1
        omega
      rw [num_ge c, List.cons_append, read_on (by rw [hb, may_iff]; omega) (by rw [hb]; omega), hb, read_num (m / 128) (i + 1) _ b (by omega) (by omega), List.length_cons]
      apply Prod.ext
      · show acc + (m % 128 + 128) % 128 * 128 ^ i + 128 ^ (i + 1) * (m / 128) = acc + 128 ^ i * m
        rw [e, show (m % 128 + 128) % 128 = m % 128 by omega, Nat.mul_comm (m % 128)]
        omega
      · show ((i + 1 + (numL (m / 128)).length, 0) : Nat × Nat) = (i + ((numL (m / 128)).length + 1), 0)
        rw [show i + 1 + (numL (m / 128)).length = i + ((numL (m / 128)).length + 1) by omega]
termination_by m => m
decreasing_by omega

theorem rd_num (n : Nat) (b : List UInt8) (h : n < 18446744073709551616) : rdN (numL n ++ b) = (n, (numL n).length, 0) := by
  have := read_num n 0 0 b (.inl rfl) (by simpa using h)
  unfold rdN
  rw [this]
  simp

/-- what is read is told by these bytes. -/
theorem read_back : ∀ (l : List UInt8) (i acc : Nat), acc < 128 ^ i → (readN l i acc).2.2 = 0 → ∃ m k, readN l i acc = (acc + 128 ^ i * m, i + k, 0) ∧ 1 ≤ k ∧ k ≤ l.length ∧ numL m = l.take k ∧ (i = 0 ∨ m ≠ 0) ∧ acc + 128 ^ i * m < 18446744073709551616
  | [], i, acc, _, h => by simp [readN] at h
  | c :: l, i, acc, ha, h => by
    have hc := c.toNat_lt
    by_cases hm : mayB c.toNat i = true
    · have hy := (may_iff _ _).1 hm
      have bd : acc + c.toNat % 128 * 128 ^ i < 128 ^ (i + 1) := by
        have h1 : c.toNat % 128 * 128 ^ i ≤ 127 * 128 ^ i := Nat.mul_le_mul_right _ (by omega)
        rw [Nat.pow_succ]; omega
      have up : acc + c.toNat % 128 * 128 ^ i < 18446744073709551616 := by
        rcases Nat.lt_or_ge i 9 with h9 | h9
        · have h2 : 128 ^ (i + 1) ≤ 128 ^ 9 := Nat.pow_le_pow_right (by decide) (by omega)
          have h3 : (128 : Nat) ^ 9 < 18446744073709551616 := by decide
          omega
        · obtain rfl : i = 9 := by omega
          have h1 : c.toNat % 128 * 128 ^ 9 ≤ 1 * 128 ^ 9 := Nat.mul_le_mul_right _ (by omega)
          have h3 : (128 : Nat) ^ 9 + 128 ^ 9 = 18446744073709551616 := by decide
          omega
      by_cases ht : c.toNat < 128
      · refine ⟨c.toNat, 1, ?_, by omega, by simp, ?_, by omega, ?_⟩
        · rw [read_end hm ht, Nat.mod_eq_of_lt ht, Nat.mul_comm]
        · rw [num_lt ht]; simp
        · rw [Nat.mod_eq_of_lt ht, Nat.mul_comm] at up; exact up
      · rw [read_on hm ht] at h ⊢
        obtain ⟨m, k, e, h1, h2, h3, h4, h5⟩ := read_back l (i + 1) _ bd h
        have hm0 : m ≠ 0 := by omega
        have eq : acc + c.toNat % 128 * 128 ^ i + 128 ^ (i + 1) * m = acc + 128 ^ i * (c.toNat % 128 + 128 * m) := by
          rw [Nat.mul_add, Nat.pow_succ, Nat.mul_assoc, Nat.mul_comm (c.toNat % 128)]; omega
        refine ⟨c.toNat % 128 + 128 * m, k + 1, ?_, by omega, by simp; omega, ?_, by omega, by omega⟩
        · rw [e, eq, show i + 1 + k = i + (k + 1) by omega]
        · rw [num_ge (by omega), show (c.toNat % 128 + 128 * m) / 128 = m by omega, h3, List.take_succ_cons, show (c.toNat % 128 + 128 * m) % 128 + 128 = c.toNat by omega]
          simp
    · rw [read_no (by simpa using hm)] at h
      simp at h

theorem rd_back (l : List UInt8) (h : (rdN l).2.2 = 0) : 1 ≤ (rdN l).2.1 ∧ (rdN l).2.1 ≤ l.length ∧ numL (rdN l).1 = l.take (rdN l).2.1 ∧ (rdN l).1 < 18446744073709551616 := by
  obtain ⟨m, k, e, h1, h2, h3, _, h5⟩ := read_back l 0 0 (by decide) h
  have e' : rdN l = (m, k, 0) := by show readN l 0 0 = _; rw [e]; simp
  rw [e']
  simp at h5
  exact ⟨h1, h2, h3, h5⟩
/-- an error, or what is read: in short. -/
theorem read_or : ∀ (l : List UInt8) (i acc : Nat), (readN l i acc).2.2 = 0 ∨ (readN l i acc = (0, 0, (readN l i acc).2.2) ∧ ((readN l i acc).2.2 = 3 ∨ (readN l i acc).2.2 = 4))
  | [], i, acc => by right; simp [readN]
  | c :: l, i, acc => by
    by_cases hm : mayB c.toNat i = true
    · by_cases ht : c.toNat < 128
      · left; rw [read_end hm ht]
      · rw [read_on hm ht]; exact read_or l _ _
    · right; rw [read_no (by simpa using hm)]; simp
theorem rd_or (l : List UInt8) : (rdN l).2.2 = 0 ∨ (rdN l = (0, 0, (rdN l).2.2) ∧ ((rdN l).2.2 = 3 ∨ (rdN l).2.2 = 4)) := read_or l 0 0
theorem rd_bd (l : List UInt8) : (rdN l).1 < 18446744073709551616 ∧ (rdN l).2.1 ≤ l.length ∧ (rdN l).2.2 ≤ 4 := by
  rcases rd_or l with h | ⟨h, h2⟩
  · have := rd_back l h; omega
  · rw [h]; dsimp only; omega

/-- a whole number with a sign, as a number; back. -/
def sgnN (n : Int) : Nat := if n < 0 then (2 * (-(n + 1)) + 1).toNat else (2 * n).toNat
def unsN (n : Nat) : Int := if n % 2 = 1 then -((n / 2 : Nat) : Int) - 1 else ((n / 2 : Nat) : Int)
theorem sgn_bd (n : Int) (h0 : -9223372036854775808 ≤ n) (h1 : n ≤ 9223372036854775807) : sgnN n < 18446744073709551616 := by unfold sgnN; split <;> omega
theorem uns_sgn (n : Int) : unsN (sgnN n) = n := by unfold unsN sgnN; split <;> split <;> omega
theorem sgn_uns (n : Nat) : sgnN (unsN n) = n := by unfold unsN sgnN; split <;> split <;> omega
theorem uns_bd (n : Nat) (h : n < 18446744073709551616) : -9223372036854775808 ≤ unsN n ∧ unsN n ≤ 9223372036854775807 := by unfold unsN; split <;> omega
end Go.Proofs.Ythbncbdnpeglfaa.Pk
