/- Plain facts on whole numbers for layer 1 (fixed): holding a number between two ends, dividing down. Nothing of the program is in this text. -/
import Derived.WalkKit
namespace Go.Proofs.Ythbncbdnpeglfaa.Fx

/-- a fact, laid aside. -/
theorem hid {p : Prop} (h : p) : RowKit.Hid p := h

/-- two endings with the same number are the same. -/
theorem ret_int {k : IntKind} {a b : Int} (h : a = b) : Ending.returned (.int k a) = .returned (.int k b) := by rw [h]
theorem ret_bool {a b : Bool} (h : a = b) : Ending.returned (.bool a) = .returned (.bool b) := by rw [h]

/-- n, at most 'most', then at least 'least'. -/
def holdI (n least most : Int) : Int := if (if most < n then most else n) < least then least else (if most < n then most else n)
/-- n, or the end of 32 bits that it passes. -/
def satI (n : Int) : Int := if 2147483647 < n then 2147483647 else if n < -2147483648 then -2147483648 else n
/-- a divided by b, down. -/
def downI (a b : Int) : Int := if 0 < b then a / b else (-a) / (-b)
/-- what dividing by 0 answers. -/
def endI (a : Int) : Int := if 0 < a then 2147483647 else if a < 0 then -2147483648 else 0
/-- what dividing two numbers answers. -/
def divI (a b : Int) : Int := if b = 0 then endI a else satI (downI (a * 65536) b)

theorem hold_sat (n : Int) : holdI n (-2147483648) 2147483647 = satI n := by unfold holdI satI; split <;> split <;> (try split) <;> omega
theorem sat_bd (n : Int) : -2147483648 ≤ satI n ∧ satI n ≤ 2147483647 := by unfold satI; split <;> (try split) <;> omega
theorem sat_id (n : Int) (h : -2147483648 ≤ n ∧ n ≤ 2147483647) : satI n = n := by unfold satI; split <;> (try split) <;> omega

theorem mul_bd (a b M K : Int) (ha : -M ≤ a ∧ a ≤ M) (hb : -K ≤ b ∧ b ≤ K) : -(M * K) ≤ a * b ∧ a * b ≤ M * K := by
  have h1 := Int.mul_nonneg (show 0 ≤ M - a by omega) (show 0 ≤ K + b by omega)
  have h2 := Int.mul_nonneg (show 0 ≤ M + a by omega) (show 0 ≤ K - b by omega)
  have h3 := Int.mul_nonneg (show 0 ≤ M - a by omega) (show 0 ≤ K - b by omega)
  have h4 := Int.mul_nonneg (show 0 ≤ M + a by omega) (show 0 ≤ K + b by omega)
  simp only [Int.sub_mul, Int.add_mul, Int.mul_sub, Int.mul_add] at h1 h2 h3 h4
  constructor <;> omega
theorem mul32 (a b : Int) (ha : -2147483648 ≤ a ∧ a ≤ 2147483647) (hb : -2147483648 ≤ b ∧ b ≤ 2147483647) : -4611686018427387904 ≤ a * b ∧ a * b ≤ 4611686018427387904 := by
  have := mul_bd a b 2147483648 2147483648 (by omega) (by omega)
  omega

theorem tdiv_bd (a b M : Int) (h : -M ≤ a ∧ a ≤ M) : -M ≤ a.tdiv b ∧ a.tdiv b ≤ M := by
  have := Int.natAbs_tdiv_le_natAbs a b
  omega
theorem tdiv_pos (a b : Int) (hb : 0 < b) : a.tdiv b = if a.tmod b ≠ 0 ∧ a < 0 then a / b + 1 else a / b := by
  rw [Int.tdiv_eq_ediv, Int.sign_eq_one_of_pos hb]
  by_cases h : 0 ≤ a
  · rw [if_pos (Or.inl h), if_neg (by omega)]; omega
  · by_cases d : b ∣ a
    · have e := Int.tmod_eq_zero_of_dvd d
      rw [if_pos (Or.inr d), if_neg (by omega)]; omega
    · have e : a.tmod b ≠ 0 := fun k => d (Int.dvd_of_tmod_eq_zero k)
      rw [if_neg (by rintro (k | k); exact h k; exact d k), if_pos ⟨e, by omega⟩]
theorem down_of (a b : Int) (h0 : b ≠ 0) : downI a b = if a.tmod b ≠ 0 ∧ ((a < 0 ∧ 0 ≤ b) ∨ (0 ≤ a ∧ b < 0)) then a.tdiv b - 1 else a.tdiv b := by
  unfold downI
  by_cases hb : 0 < b
  · rw [if_pos hb, tdiv_pos a b hb]
    by_cases c : a.tmod b ≠ 0 ∧ a < 0
    · rw [if_pos c, if_pos ⟨c.1, Or.inl ⟨c.2, by omega⟩⟩]; omega
    · rw [if_neg c, if_neg (by rintro ⟨x, y⟩; exact c ⟨x, by omega⟩)]
  · rw [if_neg hb]
    have t := tdiv_pos (-a) (-b) (by omega)
    rw [Int.tdiv_neg, Int.neg_tdiv, Int.tmod_neg, Int.neg_tmod] at t
    have hz : a.tmod b ≠ 0 → a ≠ 0 := by rintro x rfl; simp at x
    by_cases c : a.tmod b ≠ 0 ∧ 0 ≤ a
    · have := hz c.1
      rw [if_pos ⟨by omega, by omega⟩] at t
      rw [if_pos ⟨c.1, Or.inr ⟨c.2, by omega⟩⟩]; omega
    · rw [if_neg (by rintro ⟨x, y⟩; exact c ⟨by omega, by omega⟩)] at t
      rw [if_neg (by rintro ⟨x, y⟩; exact c ⟨x, by omega⟩)]; omega
theorem down_same (a b : Int) (h0 : b ≠ 0) (ha : -4611686018427387904 ≤ a ∧ a ≤ 4611686018427387904) (h : a.tmod b = 0) : RowKit.wrap64 (a.tdiv b) = downI a b := by
  have := tdiv_bd a b _ ha
  rw [IntWalk.wrap64_in _ (by omega), down_of a b h0, if_neg (by omega)]
theorem down_less (a b : Int) (h0 : b ≠ 0) (ha : -4611686018427387904 ≤ a ∧ a ≤ 4611686018427387904) (h : ¬ a.tmod b = 0) (k : (!decide (a < 0) == decide (b < 0)) = true) : RowKit.wrap64 (RowKit.wrap64 (a.tdiv b) - 1) = downI a b := by
  have := tdiv_bd a b _ ha
  have c : (a < 0 ∧ 0 ≤ b) ∨ (0 ≤ a ∧ b < 0) := by
    by_cases x : a < 0 <;> by_cases y : b < 0 <;> simp [x, y] at k <;> omega
  rw [IntWalk.wrap64_in (a.tdiv b) (by omega), IntWalk.wrap64_in _ (by omega), down_of a b h0, if_pos ⟨h, c⟩]
theorem down_alike (a b : Int) (h0 : b ≠ 0) (ha : -4611686018427387904 ≤ a ∧ a ≤ 4611686018427387904) (k : (!decide (a < 0) == decide (b < 0)) = false) : RowKit.wrap64 (a.tdiv b) = downI a b := by
  have := tdiv_bd a b _ ha
  have c : ¬ ((a < 0 ∧ 0 ≤ b) ∨ (0 ≤ a ∧ b < 0)) := by
    by_cases x : a < 0 <;> by_cases y : b < 0 <;> simp [x, y] at k <;> omega
  rw [IntWalk.wrap64_in (a.tdiv b) (by omega), down_of a b h0, if_neg (fun h => c h.2)]
theorem tmod_bd (a b : Int) (hb : 0 < b) : -b < a.tmod b ∧ a.tmod b < b := by
  have h1 := Int.tmod_lt_of_pos a hb
  have h2 := Int.tmod_lt_of_pos (-a) hb
  rw [Int.neg_tmod] at h2
  omega
/-- what the document's Floor reckons: from the rest that the language gives. -/
theorem floor_less (a b : Int) (hb : 0 < b) (h : a.tmod b < 0) : (a - (a.tmod b + b)).tdiv b = a / b := by
  have e := Int.mul_tdiv_add_tmod a b
  have e1 : a - (a.tmod b + b) = b * (a.tdiv b - 1) := by rw [Int.mul_sub, Int.mul_one]; omega
  have n : a < 0 := by
    by_cases c : a < 0
    · exact c
    · have := Int.tmod_nonneg b (show 0 ≤ a by omega); omega
  rw [e1, Int.mul_tdiv_cancel_left _ (by omega), tdiv_pos a b hb, if_pos ⟨by omega, n⟩]; omega
theorem floor_same (a b : Int) (hb : 0 < b) (h : ¬ a.tmod b < 0) : (a - a.tmod b).tdiv b = a / b := by
  have e := Int.mul_tdiv_add_tmod a b
  have e1 : a - a.tmod b = b * a.tdiv b := by omega
  rw [e1, Int.mul_tdiv_cancel_left _ (by omega), tdiv_pos a b hb, if_neg]
  rintro ⟨x, y⟩
  have t := Int.tmod_nonneg b (show 0 ≤ -a by omega)
  rw [Int.neg_tmod] at t
  omega
theorem ediv_bd (a b M : Int) (hb : 0 < b) (hM : 0 ≤ M) (h : -M ≤ a ∧ a ≤ M) : -M ≤ a / b ∧ a / b ≤ M := by
  constructor
  · apply (Int.le_ediv_iff_mul_le hb).2
    have := Int.mul_le_mul_of_nonneg_left (show 1 ≤ b by omega) hM
    rw [Int.neg_mul]; omega
  · apply Int.le_of_lt_add_one
    apply (Int.ediv_lt_iff_lt_mul hb).2
    have := Int.mul_le_mul_of_nonneg_left (show 1 ≤ b by omega) (show 0 ≤ M + 1 by omega)
    omega
theorem down_bd (a b M : Int) (h0 : b ≠ 0) (hM : 0 ≤ M) (h : -M ≤ a ∧ a ≤ M) : -M ≤ downI a b ∧ downI a b ≤ M := by
  unfold downI
  split
  · exact ediv_bd a b M (by omega) hM h
  · exact ediv_bd (-a) (-b) M (by omega) hM (by omega)

/-- the place after n of the steps from a to b. -/
def lerpI (a b n k : Int) : Int := a + (b - a) * n / k
theorem lerp_up (a b n m k : Int) (h : a ≤ b) (hk : 1 ≤ k) (h0 : 0 ≤ n) (h1 : n ≤ m) (h2 : m ≤ k) : a ≤ lerpI a b n k ∧ lerpI a b n k ≤ lerpI a b m k ∧ lerpI a b m k ≤ b := by
  have p0 := Int.mul_nonneg (show 0 ≤ b - a by omega) h0
  have p1 := Int.mul_le_mul_of_nonneg_left h1 (show 0 ≤ b - a by omega)
  have p2 := Int.mul_le_mul_of_nonneg_left h2 (show 0 ≤ b - a by omega)
  have q0 := Int.ediv_nonneg p0 (show 0 ≤ k by omega)
  have q1 := Int.ediv_le_ediv (show 0 < k by omega) p1
  have q2 := Int.ediv_le_ediv (show 0 < k by omega) p2
  rw [Int.mul_ediv_cancel _ (show k ≠ 0 by omega)] at q2
  unfold lerpI
  omega
theorem lerp_dn (a b n m k : Int) (h : b ≤ a) (hk : 1 ≤ k) (h0 : 0 ≤ n) (h1 : n ≤ m) (h2 : m ≤ k) : lerpI a b n k ≤ a ∧ lerpI a b m k ≤ lerpI a b n k ∧ b ≤ lerpI a b m k := by
  have p0 := Int.mul_le_mul_of_nonpos_left (show b - a ≤ 0 by omega) h0
  have p1 := Int.mul_le_mul_of_nonpos_left (show b - a ≤ 0 by omega) h1
  have p2 := Int.mul_le_mul_of_nonpos_left (show b - a ≤ 0 by omega) h2
  have q0 := Int.ediv_le_ediv (show 0 < k by omega) p0
  have q1 := Int.ediv_le_ediv (show 0 < k by omega) p1
  have q2 := Int.ediv_le_ediv (show 0 < k by omega) p2
  rw [Int.mul_ediv_cancel _ (show k ≠ 0 by omega)] at q2
  rw [Int.mul_zero, Int.zero_ediv] at q0
  unfold lerpI
  omega
theorem lerp_bd (a b n k : Int) (ha : -2147483648 ≤ a ∧ a ≤ 2147483647) (hb : -2147483648 ≤ b ∧ b ≤ 2147483647) (hk : 1 ≤ k) (h0 : 0 ≤ n) (h1 : n ≤ k) : -2147483648 ≤ lerpI a b n k ∧ lerpI a b n k ≤ 2147483647 := by
  by_cases h : a ≤ b
  · have := lerp_up a b n n k h hk h0 (Int.le_refl _) h1; omega
  · have := lerp_dn a b n n k (by omega) hk h0 (Int.le_refl _) h1; omega
theorem lerp_first (a b k : Int) : lerpI a b 0 k = a := by unfold lerpI; rw [Int.mul_zero, Int.zero_ediv]; omega
theorem lerp_last (a b k : Int) (hk : 1 ≤ k) : lerpI a b k k = b := by unfold lerpI; rw [Int.mul_ediv_cancel _ (show k ≠ 0 by omega)]; omega
theorem lerp_way (a b n k : Int) (ha : -2147483648 ≤ a ∧ a ≤ 2147483647) (hb : -2147483648 ≤ b ∧ b ≤ 2147483647) (hk : k ≤ 65536) (h0 : 0 ≤ n) (h1 : n ≤ k) : -281474976710656 ≤ (b - a) * n ∧ (b - a) * n ≤ 281474976710656 := by
  have := mul_bd (b - a) n 4294967296 65536 (by omega) (by omega)
  omega

theorem of_of (n : Int) : satI (holdI n (-2147483648) 2147483647 * 65536) = if 32767 < n then 2147483647 else if n < -32768 then -2147483648 else n * 65536 := by
  unfold satI holdI
  repeat' split
  all_goals omega
theorem hold_bd (n l m L M : Int) (hn : L ≤ n ∧ n ≤ M) (hl : L ≤ l ∧ l ≤ M) (hm : L ≤ m ∧ m ≤ M) : L ≤ holdI n l m ∧ holdI n l m ≤ M := by
  unfold holdI
  repeat' split
  all_goals omega
theorem hold_in (n l m : Int) (h : l ≤ m) : l ≤ holdI n l m ∧ holdI n l m ≤ m := by
  unfold holdI
  repeat' split
  all_goals omega
theorem hold_between (n l m : Int) (h : l ≤ m) : (if n < l then l else if m < n then m else n) = holdI n l m := by
  unfold holdI
  repeat' split
  all_goals omega
theorem one_times (a : Int) (ha : -2147483648 ≤ a ∧ a ≤ 2147483647) : satI (a * 65536 / 65536) = a := by
  rw [Int.mul_ediv_cancel _ (by omega), sat_id a ha]

end Go.Proofs.Ythbncbdnpeglfaa.Fx
