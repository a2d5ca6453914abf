/- Plain facts on whole numbers for layer 2 (trig): the greatest number whose square isn't above another, the wave, its mirrors. Nothing of the program is in this text. -/
import Derived.WalkKit
import Derived.Test.YthbncbdnpeglfaaFxMath
namespace Go.Proofs.Ythbncbdnpeglfaa.Tg
open Go.Proofs.Ythbncbdnpeglfaa.Fx

/-- r, with k bits more to choose. -/
def rootGo (n : Int) : Nat → Int → Int
  | 0, r => r
  | k + 1, r => if (r + 2 ^ k) * (r + 2 ^ k) ≤ n then rootGo n k (r + 2 ^ k) else rootGo n k r
/-- the greatest number of 32 bits whose square isn't above n. -/
def rootI (n : Int) : Int := rootGo n 32 0

theorem sq_le (a b : Int) (h0 : 0 ≤ a) (h : a ≤ b) : a * a ≤ b * b := Int.mul_le_mul h h h0 (by omega)
theorem sq_lt (a b : Int) (h0 : 0 ≤ a) (h : a < b) : a * a < b * b := by
  have := Int.mul_le_mul (show a ≤ b by omega) (show a + 1 ≤ b by omega) (by omega) (by omega)
  have e : a * (a + 1) = a * a + a := by rw [Int.mul_add, Int.mul_one]
  by_cases h1 : a = 0
  · subst h1
    have := Int.mul_pos h h
    omega
  · omega
theorem sq_nn (a : Int) : 0 ≤ a * a := by
  rcases Int.lt_or_le a 0 with h | h
  · have := Int.mul_nonneg (show 0 ≤ -a by omega) (show 0 ≤ -a by omega)
    rw [Int.neg_mul_neg] at this; exact this
  · exact Int.mul_nonneg h h
/-- of two numbers the lesser one's square is less: so squares tell which is the lesser. -/
theorem lt_of_sq (a b : Int) (hb : 0 ≤ b) (h : a * a < b * b) : a < b := by
  rcases Int.lt_or_le a b with h1 | h1
  · exact h1
  · have := sq_le b a hb h1; omega
theorem root_one (n a b : Int) (ha : 0 ≤ a) (hb : 0 ≤ b) (h1 : a * a ≤ n) (h2 : n < (a + 1) * (a + 1)) (h3 : b * b ≤ n) (h4 : n < (b + 1) * (b + 1)) : a = b := by
  have := lt_of_sq a (b + 1) (by omega) (by omega)
  have := lt_of_sq b (a + 1) (by omega) (by omega)
  omega
theorem pow_nn (k : Nat) : 1 ≤ (2 : Int) ^ k := by
  have := Int.pow_pos (n := 2) (m := k) (by omega); omega
theorem rootGo_is (n : Int) (k : Nat) (r : Int) (h0 : 0 ≤ r) (h1 : r * r ≤ n) (h2 : n < (r + 2 ^ k) * (r + 2 ^ k)) (h3 : r + 2 ^ k ≤ 4294967296) : 0 ≤ rootGo n k r ∧ rootGo n k r < 4294967296 ∧ rootGo n k r * rootGo n k r ≤ n ∧ n < (rootGo n k r + 1) * (rootGo n k r + 1) := by
  induction k generalizing r with
  | zero => simp only [rootGo]; simp at h2 h3; exact ⟨h0, by omega, h1, h2⟩
  | succ k ih =>
    have p := pow_nn k
    have e : (2 : Int) ^ (k + 1) = 2 ^ k + 2 ^ k := by rw [Int.pow_succ]; omega
    rw [e] at h2 h3
    simp only [rootGo]
    by_cases c : (r + 2 ^ k) * (r + 2 ^ k) ≤ n
    · rw [if_pos c]
      exact ih _ (by omega) c (by rw [Int.add_assoc]; exact h2) (by omega)
    · rw [if_neg c]
      exact ih _ h0 h1 (by omega) (by omega)
theorem root_is (n : Int) (h0 : 0 ≤ n) (h1 : n < 18446744073709551616) : 0 ≤ rootI n ∧ rootI n < 4294967296 ∧ rootI n * rootI n ≤ n ∧ n < (rootI n + 1) * (rootI n + 1) :=
  rootGo_is n 32 0 (by omega) (by omega) (by simpa using h1) (by omega)
theorem root_eq (n r : Int) (h0 : 0 ≤ n) (h1 : n < 18446744073709551616) (h2 : 0 ≤ r) (h3 : r * r ≤ n) (h4 : n < (r + 1) * (r + 1)) : r = rootI n := by
  have h := root_is n h0 h1
  exact root_one n r _ h2 h.1 h3 h4 h.2.2.1 h.2.2.2

/-- half of two to the k. -/
def bitI (k : Nat) : Int := 2 ^ k / 2
theorem bit_0 : bitI 0 = 0 := by decide
theorem bit_32 : bitI 32 = 2147483648 := by decide
theorem bit_succ (k : Nat) : bitI (k + 1) = 2 ^ k := by unfold bitI; rw [Int.pow_succ]; omega
theorem bit_half (k : Nat) : bitI (k + 1) / 2 = bitI k := by rw [bit_succ]; rfl
theorem bit_pos (k : Nat) : 1 ≤ bitI (k + 1) := by rw [bit_succ]; exact pow_nn k
theorem bit_two (k : Nat) : (2 : Int) ^ (k + 1) = bitI (k + 1) + bitI (k + 1) := by rw [bit_succ, Int.pow_succ]; omega

/-- the wave's first half turn. -/
def hillI (x : Int) : Int := 16 * (x * (32768 - x)) * 65536 / (5368709120 - 4 * (x * (32768 - x)))
theorem prod_bd (x : Int) (h0 : 0 ≤ x) (h1 : x ≤ 32768) : 0 ≤ x * (32768 - x) ∧ x * (32768 - x) ≤ 268435456 := by
  refine ⟨Int.mul_nonneg h0 (by omega), ?_⟩
  have e := sq_nn (x - 16384)
  simp only [Int.sub_mul, Int.mul_sub] at e ⊢
  omega
theorem hill_bd (x : Int) (h0 : 0 ≤ x) (h1 : x ≤ 32768) : 0 ≤ hillI x ∧ hillI x ≤ 65536 := by
  have h := prod_bd x h0 h1
  unfold hillI
  generalize x * (32768 - x) = p at h
  refine ⟨Int.ediv_nonneg (by omega) (by omega), ?_⟩
  apply Int.le_of_lt_add_one
  apply (Int.ediv_lt_iff_lt_mul (by omega)).2
  omega
theorem hill_0 : hillI 0 = 0 := by decide
theorem hill_mirror (x : Int) : hillI (32768 - x) = hillI x := by
  unfold hillI
  have e : (32768 - x) * (32768 - (32768 - x)) = x * (32768 - x) := by
    rw [Int.mul_comm]
    congr 1
    omega
  rw [e]

/-- the wave at an angle. -/
def waveI (a : Int) : Int := if a % 65536 < 32768 then hillI (a % 65536) else -hillI (a % 65536 - 32768)
theorem wave_bd (a : Int) : -65536 ≤ waveI a ∧ waveI a ≤ 65536 := by
  unfold waveI
  split
  · have := hill_bd (a % 65536) (by omega) (by omega); omega
  · have := hill_bd (a % 65536 - 32768) (by omega) (by omega); omega
theorem wave_mod (a b : Int) (h : a % 65536 = b % 65536) : waveI a = waveI b := by unfold waveI; rw [h]
theorem wave_half (a : Int) : waveI (a + 32768) = -waveI a := by
  unfold waveI
  by_cases h : a % 65536 < 32768
  · rw [if_neg (by omega), if_pos h, show (a + 32768) % 65536 - 32768 = a % 65536 by omega]
  · rw [if_pos (by omega), if_neg h, show (a + 32768) % 65536 = a % 65536 - 32768 by omega, Int.neg_neg]
theorem wave_mirror (a : Int) : waveI (32768 - a) = waveI a := by
  unfold waveI
  by_cases h0 : a % 65536 = 0
  · rw [h0, if_neg (by omega), if_pos (by omega), show (32768 - a) % 65536 - 32768 = 0 by omega, hill_0]; rfl
  · by_cases h : a % 65536 < 32768
    · rw [if_pos (by omega), if_pos h, show (32768 - a) % 65536 = 32768 - a % 65536 by omega, hill_mirror]
    · by_cases h1 : a % 65536 = 32768
      · rw [h1, if_pos (by omega), if_neg (by omega), show (32768 - a) % 65536 = 0 by omega, show (32768 : Int) - 32768 = 0 by omega, hill_0]; rfl
      · rw [if_neg (by omega), if_neg h, show (32768 - a) % 65536 - 32768 = 32768 - (a % 65536 - 32768) by omega, hill_mirror]
theorem wave_neg (a : Int) : waveI (-a) = -waveI a := by
  have h1 := wave_half (-a)
  have h2 := wave_mirror a
  rw [show -a + 32768 = 32768 - a by omega] at h1
  omega
theorem wave_lo (a : Int) (h : a % 65536 < 32768) : waveI a = hillI (a % 65536) := by unfold waveI; rw [if_pos h]
theorem wave_hi (a : Int) (h : ¬ a % 65536 < 32768) : waveI a = -hillI (a % 65536 - 32768) := by unfold waveI; rw [if_neg h]

/-- both squared, together. -/
def sqsI (x y : Int) : Int := x * x + y * y
theorem sq32 (x : Int) (h : -2147483648 ≤ x ∧ x ≤ 2147483647) : 0 ≤ x * x ∧ x * x ≤ 4611686018427387904 := ⟨sq_nn x, (mul32 x x h h).2⟩
/-- the length of a way. -/
def lenI (x y : Int) : Int := satI (rootI (sqsI x y))
theorem len_bd (x y : Int) : -2147483648 ≤ lenI x y ∧ lenI x y ≤ 2147483647 := sat_bd _

end Go.Proofs.Ythbncbdnpeglfaa.Tg
