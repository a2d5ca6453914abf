/- What each function of layer 2 (trig), and each of its document's answers, returns when it is called with any numbers of its parameters' kinds; no function here changes the memory. -/
import Derived.Test.YtoogcbniphoaoaaDoorRows
import Derived.WalkKit
import Derived.LoopTactic
import Derived.Laws.BitsLemmas
import Derived.Test.YtoogcbniphoaoaaDoorFxCalls
import Derived.Test.YtoogcbniphoaoaaDoorTgMath
namespace Go.Proofs.YtoogcbniphoaoaaDoor.Tg
open Go.RowKit Go.Proofs.YtoogcbniphoaoaaDoor.Fx

/-- the lowest 16 bits of a number with a sign are its rest by 65536. -/
theorem and_turn (n : Int) : bits .and .i64 n 65535 = n % 65536 := by
  have h1 : (BitVec.ofInt 64 65535).toNat = 2 ^ 16 - 1 := by decide
  have h2 : (BitVec.ofInt 64 n &&& BitVec.ofInt 64 65535).toNat = (n % ((2 ^ 64 : Nat) : Int)).toNat % 2 ^ 16 := by
    rw [BitVec.toNat_and, BitVec.toNat_ofInt, h1, Nat.and_two_pow_sub_one_eq_mod]
  show IntKind.i64.wrap ((BitVec.ofInt 64 n &&& BitVec.ofInt 64 65535).toNat : Nat) = n % 65536
  rw [h2, IntKind.wrap_i64]
  omega

theorem part_c (a : Int) (w : World) :
    Calls Tryd.prog 68 #[.int .i64 a] w fun e w' => e = .returned (.int .i64 (a % 65536)) ∧ w = w' := by
  rw [← and_turn a]
  go_enter Tryd.func68, Tryd.ntmps68
  go_wp2
  go_ret
  exact ⟨rfl, rfl⟩

theorem hill_c (x : Int) (h0 : 0 ≤ x) (h1 : x ≤ 32768) (w : World) :
    Calls Tryd.prog 82 #[.int .i64 x] w fun e w' => e = .returned (.int .i32 (hillI x)) ∧ w = w' := by
  have hp := prod_bd x h0 h1
  have hb := hill_bd x h0 h1
  unfold hillI at hb ⊢
  go_enter Tryd.func82, Tryd.ntmps82
  go_wp2
  go_ret
  exact ⟨rfl, rfl⟩

theorem wave_c (a : Int) (w : World) :
    Calls Tryd.prog 67 #[.int .i64 (a % 65536)] w fun e w' => e = .returned (.int .i32 (waveI a)) ∧ w = w' := by
  by_cases h : a % 65536 < 32768
  · rw [wave_lo a h]
    go_enter Tryd.func67, Tryd.ntmps67
    go_wp2_with (go_at_call 82; ((with_reducible refine (hill_c _ (by omega) (by omega) _).mono ?_); rintro e w' ⟨rfl, rfl⟩))
    go_ret
    exact ⟨rfl, rfl⟩
  · rw [wave_hi a h]
    have hb := hill_bd (a % 65536 - 32768) (by omega) (by omega)
    go_enter Tryd.func67, Tryd.ntmps67
    go_wp2_with (go_at_call 82; ((with_reducible refine (hill_c _ (by omega) (by omega) _).mono ?_); rintro e w' ⟨rfl, rfl⟩))
    go_ret
    exact ⟨rfl, rfl⟩

theorem sin_c (a : Int) (w : World) :
    Calls Tryd.prog 53 #[.int .i64 a] w fun e w' => e = .returned (.int .i32 (waveI a)) ∧ w = w' := by
  go_enter Tryd.func53, Tryd.ntmps53
  go_wp2_with (first
    | (go_at_call 68; ((with_reducible refine (part_c _ _).mono ?_); rintro e w' ⟨rfl, rfl⟩))
    | (go_at_call 67; ((with_reducible refine (wave_c a _).mono ?_); rintro e w' ⟨rfl, rfl⟩)))
  go_ret
  exact ⟨rfl, rfl⟩

theorem cos_c (a : Int) (w : World) :
    Calls Tryd.prog 52 #[.int .i64 a] w fun e w' => e = .returned (.int .i32 (waveI (a + 16384))) ∧ w = w' := by
  go_enter Tryd.func52, Tryd.ntmps52
  go_wp2_with (first
    | (go_at_call 68; ((with_reducible refine (part_c _ _).mono ?_); rintro e w' ⟨rfl, rfl⟩))
    | (go_at_call 67; ((with_reducible refine (wave_c (a + 16384) _).mono ?_); rintro e w' ⟨rfl, rfl⟩)))
  go_ret
  exact ⟨rfl, rfl⟩

/-- the half turn's part of an angle, and on which side it lies, in the document's own reckoning. -/
theorem wave_side (a m x : Int) (hm : m = a % 65536) (hx : x = m % 32768) : waveI a = if 32768 ≤ m then -hillI x else hillI x := by
  subst hm
  by_cases h : 32768 ≤ a % 65536
  · rw [if_pos h, wave_hi a (by omega), hx, show a % 65536 % 32768 = a % 65536 - 32768 by omega]
  · rw [if_neg h, wave_lo a (by omega), hx, show a % 65536 % 32768 = a % 65536 by omega]
theorem tmod_up (a : Int) (h : a.tmod 65536 < 0) : a.tmod 65536 + 65536 = a % 65536 := by
  have := Int.mul_tdiv_add_tmod a 65536
  have := tmod_bd a 65536 (by omega)
  omega
theorem tmod_same (a : Int) (h : 0 ≤ a.tmod 65536) : a.tmod 65536 = a % 65536 := by
  have := Int.mul_tdiv_add_tmod a 65536
  have := tmod_bd a 65536 (by omega)
  omega
theorem tmod_none (a : Int) (h0 : a < 0) (h : 0 ≤ a.tmod 65536) : a.tmod 65536 = 0 ∧ a.tmod 32768 = 0 := by
  have h1 := Int.tmod_nonneg 65536 (show 0 ≤ -a by omega)
  rw [Int.neg_tmod] at h1
  have h2 := Int.mul_tdiv_add_tmod a 65536
  have e : a = 32768 * (2 * a.tdiv 65536) := by omega
  have h3 : a.tmod 32768 = 0 := Int.tmod_eq_zero_of_dvd ⟨_, e⟩
  exact ⟨by omega, h3⟩

theorem root_yes (n r b : Int) (k : Nat) (hb : b = 2 ^ k) (hu : n < (r + (b + b)) * (r + (b + b))) (ht : r + (b + b) ≤ 4294967296) : n < (r + b + 2 ^ k) * (r + b + 2 ^ k) ∧ r + b + 2 ^ k ≤ 4294967296 := by
  subst hb
  rw [Int.add_assoc]
  exact ⟨hu, ht⟩
theorem root_no (n r b : Int) (k : Nat) (hb : b = 2 ^ k) (hu : n < (r + b) * (r + b)) (ht : r + (b + b) ≤ 4294967296) : n < (r + 2 ^ k) * (r + 2 ^ k) ∧ r + 2 ^ k ≤ 4294967296 := by
  subst hb
  have := pow_nn k
  exact ⟨hu, by omega⟩

theorem root_c (n : Int) (h0 : 0 ≤ n) (h1 : n < 18446744073709551616) (w : World) :
    Calls Tryd.prog 70 #[.int .u64 n] w fun e w' => e = .returned (.int .u64 (rootI n)) ∧ w = w' := by
  go_enter Tryd.func70, Tryd.ntmps70
  go_wp2
  go_loop [3, 4] (fun t b => ∃ k : Nat, ∃ r : Int, k ≤ 32 ∧ 0 ≤ r ∧ r * r ≤ n ∧ n < (r + 2 ^ k) * (r + 2 ^ k) ∧ r + 2 ^ k ≤ 4294967296 ∧ t = .int .u64 r ∧ b = .int .u64 (bitI k)) (fun _ b => (intOf b).toNat)
  case atStart => exact ⟨32, 0, by omega, by omega, by omega, by simpa using h1, by omega, rfl, by rw [bit_32]⟩
  case round =>
    obtain ⟨k, r, hk, hr, hq, hu, ht, rfl, rfl⟩ := hrel
    cases k with
    | zero =>
      rw [bit_0]
      go_wp2
      go_ret
      exact ⟨ret_int (root_eq n r h0 h1 hr hq (by simpa using hu)), rfl⟩
    | succ k =>
      have hb := bit_pos k
      have hh := hid (bit_half k)
      have he := hid (bit_succ k)
      rw [bit_two] at hu ht
      have hm := sq_nn (r + bitI (k + 1))
      have hM := sq_le (r + bitI (k + 1)) 4294967295 (by omega) (by omega)
      by_cases c : (r + bitI (k + 1)) * (r + bitI (k + 1)) ≤ n
      · go_wp2
        go_round
        case rel => exact ⟨k, r + bitI (k + 1), by omega, by omega, c, (root_yes n r _ k he.out hu ht).1, (root_yes n r _ k he.out hu ht).2, rfl, by rw [hh.out]⟩
        case measure => simp [intOf]; omega
      · go_wp2
        go_round
        case rel => exact ⟨k, r, by omega, hr, hq, (root_no n r _ k he.out (by omega) ht).1, (root_no n r _ k he.out (by omega) ht).2, rfl, by rw [hh.out]⟩
        case measure => simp [intOf]; omega

theorem square_c (x : Int) (hx : -2147483648 ≤ x ∧ x ≤ 2147483647) (w : World) :
    Calls Tryd.prog 60 #[.int .i32 x] w fun e w' => e = .returned (.int .u64 (x * x)) ∧ w = w' := by
  have hq := sq32 x hx
  go_enter Tryd.func60, Tryd.ntmps60
  go_wp2
  go_ret
  exact ⟨rfl, rfl⟩

theorem squares_c (x y : Int) (hx : -2147483648 ≤ x ∧ x ≤ 2147483647) (hy : -2147483648 ≤ y ∧ y ≤ 2147483647) (w : World) :
    Calls Tryd.prog 59 #[.int .i32 x, .int .i32 y] w fun e w' => e = .returned (.int .u64 (sqsI x y)) ∧ w = w' := by
  have h1 := sq32 x hx
  have h2 := sq32 y hy
  unfold sqsI
  go_enter Tryd.func59, Tryd.ntmps59
  go_wp2_with (go_at_call 60; ((with_reducible refine (square_c _ (by assumption) _).mono ?_); rintro e w' ⟨rfl, rfl⟩))
  go_ret
  exact ⟨rfl, rfl⟩

theorem sqs_bd (x y : Int) (hx : -2147483648 ≤ x ∧ x ≤ 2147483647) (hy : -2147483648 ≤ y ∧ y ≤ 2147483647) : 0 ≤ sqsI x y ∧ sqsI x y < 18446744073709551616 := by
  have h1 := sq32 x hx
  have h2 := sq32 y hy
  unfold sqsI
  omega

theorem length_c (x y : Int) (hx : -2147483648 ≤ x ∧ x ≤ 2147483647) (hy : -2147483648 ≤ y ∧ y ≤ 2147483647) (w : World) :
    Calls Tryd.prog 56 #[.int .i32 x, .int .i32 y] w fun e w' => e = .returned (.int .i32 (lenI x y)) ∧ w = w' := by
  have h1 := sqs_bd x y hx hy
  have h2 := root_is _ h1.1 h1.2
  obtain ⟨h3, h4, _, _⟩ := h2
  unfold lenI
  go_enter Tryd.func56, Tryd.ntmps56
  go_wp2_with (first
    | (go_at_call 59; ((with_reducible refine (squares_c _ _ hx hy _).mono ?_); rintro e w' ⟨rfl, rfl⟩))
    | (go_at_call 70; ((with_reducible refine (root_c _ h1.1 h1.2 _).mono ?_); rintro e w' ⟨rfl, rfl⟩))
    | (go_at_call 61; ((with_reducible refine (sat_c _ _).mono ?_); rintro e w' ⟨rfl, rfl⟩)))
  go_ret
  exact ⟨rfl, rfl⟩

/-- one part of a step of a speed. -/
def stepI (x l s : Int) : Int := if l = 0 then 0 else divI (satI (x * s / 65536)) l
theorem step_0 (x l s : Int) (h : l = 0) : stepI x l s = 0 := by unfold stepI; rw [if_pos h]
theorem step_1 (x l s : Int) (h : ¬ l = 0) : stepI x l s = divI (satI (x * s / 65536)) l := by unfold stepI; rw [if_neg h]

theorem toward_c (x y s : Int) (hx : -2147483648 ≤ x ∧ x ≤ 2147483647) (hy : -2147483648 ≤ y ∧ y ≤ 2147483647) (hs : -2147483648 ≤ s ∧ s ≤ 2147483647) (w : World) :
    Calls Tryd.prog 71 #[.int .i32 x, .int .i32 y, .int .i32 s] w fun e w' => e = .returned (.tuple #[.int .i32 (stepI x (lenI x y) s), .int .i32 (stepI y (lenI x y) s)]) ∧ w = w' := by
  have hl := len_bd x y
  by_cases h : lenI x y = 0
  · rw [step_0 _ _ _ h, step_0 _ _ _ h]
    go_enter Tryd.func71, Tryd.ntmps71
    go_wp2_with (go_at_call 56; ((with_reducible refine (length_c _ _ hx hy _).mono ?_); rintro e w' ⟨rfl, rfl⟩))
    go_ret2
    exact ⟨rfl, rfl⟩
  · rw [step_1 _ _ _ h, step_1 _ _ _ h]
    go_enter Tryd.func71, Tryd.ntmps71
    go_wp2_with (first
      | (go_at_call 56; ((with_reducible refine (length_c _ _ hx hy _).mono ?_); rintro e w' ⟨rfl, rfl⟩))
      | (go_at_call 54; ((with_reducible refine (mul_c _ _ (by assumption) hs _).mono ?_); rintro e w' ⟨rfl, rfl⟩))
      | (go_at_call 62; ((with_reducible refine (div_c _ _ (sat_bd _) hl _).mono ?_); rintro e w' ⟨rfl, rfl⟩)))
    go_ret2
    exact ⟨rfl, rfl⟩

/-- is x and y within the circle of r? -/
def nearB (x y r : Int) : Bool := decide (0 ≤ r) && decide (sqsI x y ≤ r * r)
theorem near_c (x y r : Int) (hx : -2147483648 ≤ x ∧ x ≤ 2147483647) (hy : -2147483648 ≤ y ∧ y ≤ 2147483647) (hr : -2147483648 ≤ r ∧ r ≤ 2147483647) (w : World) :
    Calls Tryd.prog 46 #[.int .i32 x, .int .i32 y, .int .i32 r] w fun e w' => e = .returned (.bool (nearB x y r)) ∧ w = w' := by
  unfold nearB
  by_cases h : 0 ≤ r
  · have hd : decide (0 ≤ r) = true := by simpa using h
    rw [hd, Bool.true_and]
    go_enter Tryd.func46, Tryd.ntmps46
    go_wp2_with (first
      | (go_at_call 59; ((with_reducible refine (squares_c _ _ hx hy _).mono ?_); rintro e w' ⟨rfl, rfl⟩))
      | (go_at_call 60; ((with_reducible refine (square_c _ hr _).mono ?_); rintro e w' ⟨rfl, rfl⟩)))
    go_ret
    exact ⟨rfl, rfl⟩
  · have hd : decide (0 ≤ r) = false := by simpa using h
    rw [hd, Bool.false_and]
    go_enter Tryd.func46, Tryd.ntmps46
    go_wp2_with (fail)
    go_ret
    exact ⟨rfl, rfl⟩

end Go.Proofs.YtoogcbniphoaoaaDoor.Tg
