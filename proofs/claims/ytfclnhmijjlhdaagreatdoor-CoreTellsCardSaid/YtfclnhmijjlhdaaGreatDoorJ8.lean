/- Plain facts on whole numbers for layer 9 (dice): the rule of one state, there and back, and of many at once as a product and a sum, modulo 2^32. Nothing of the program is in this text. -/
/- What each function of layer 9 (dice), and each of its document's answers, returns when it is called with any numbers of its parameters' kinds; no function here changes the memory. -/
import Derived.WalkKit
import Derived.Test.YtfclnhmijjlhdaaGreatDoorJ0
import Derived.Test.YtfclnhmijjlhdaaGreatDoorRows
import Derived.LoopTactic
import Derived.Laws.BitsLemmas
import Derived.Laws.BitsAllLaws
namespace Go.Proofs.YtfclnhmijjlhdaaGreatDoor.Dc
open Go.Proofs.YtfclnhmijjlhdaaGreatDoor.Fx

/-- the next state. -/
def nxI (a : Int) : Int := (a * 1664525 + 1013904223) % 4294967296
/-- the state whose next one it is. -/
def bkI (a : Int) : Int := ((a - 1013904223) * 4276115653) % 4294967296
/-- the product and the sum of so many steps. -/
def upN : Nat → Int
 | 0 => 1
 | n + 1 => upN n * 1664525
def onN : Nat → Int
 | 0 => 0
 | n + 1 => onN n * 1664525 + 1013904223
/-- so many steps from a state. -/
def skI (a : Int) (n : Nat) : Int := (a * upN n + onN n) % 4294967296

theorem nx_bd (a : Int) : 0 ≤ nxI a ∧ nxI a < 4294967296 := by unfold nxI; omega
theorem bk_bd (a : Int) : 0 ≤ bkI a ∧ bkI a < 4294967296 := by unfold bkI; omega
theorem sk_bd (a : Int) (n : Nat) : 0 ≤ skI a n ∧ skI a n < 4294967296 := by unfold skI; omega
theorem bk_nx (a : Int) (h : 0 ≤ a ∧ a < 4294967296) : bkI (nxI a) = a := by unfold bkI nxI; omega
theorem nx_bk (a : Int) (h : 0 ≤ a ∧ a < 4294967296) : nxI (bkI a) = a := by unfold bkI nxI; omega
theorem nx_ne (a b : Int) (ha : 0 ≤ a ∧ a < 4294967296) (hb : 0 ≤ b ∧ b < 4294967296) (h : a ≠ b) : nxI a ≠ nxI b := by
 intro k
 have := bk_nx a ha
 rw [k, bk_nx b hb] at this
 exact h this.symm

theorem up_add (n m : Nat) : upN (n + m) = upN n * upN m := by
 induction m with
 | zero => simp [upN]
 | succ m ih => rw [← Nat.add_assoc, upN, ih, upN, Int.mul_assoc]
theorem on_add (n m : Nat) : onN (n + m) = onN n * upN m + onN m := by
 induction m with
 | zero => simp [upN, onN]
 | succ m ih => rw [← Nat.add_assoc, onN, ih, upN, onN, Int.add_mul, Int.mul_assoc]; omega
theorem up_one : upN 1 = 1664525 := rfl
theorem on_one : onN 1 = 1013904223 := rfl

/-- what is taken modulo on the way does not matter. -/
theorem mod_in (x y z M : Int) : (x % M * y + z) % M = (x * y + z) % M := by
 rw [Int.add_emod, Int.mul_emod, Int.emod_emod, ← Int.mul_emod, ← Int.add_emod]
theorem mod_in2 (x y z M : Int) : (x * (y % M) + z % M) % M = (x * y + z) % M := by
 rw [Int.add_emod, Int.mul_emod, Int.emod_emod, Int.emod_emod, ← Int.mul_emod, ← Int.add_emod]
theorem mod_in3 (x y z M : Int) : (x % M * (y % M) + z % M) % M = (x * y + z) % M := by
 rw [mod_in2, mod_in]

theorem sk_add (a : Int) (n m : Nat) : skI (skI a n) m = skI a (n + m) := by
 unfold skI
 rw [mod_in, up_add, on_add, Int.add_mul, Int.mul_assoc, Int.add_assoc]
theorem sk_zero (a : Int) (h : 0 ≤ a ∧ a < 4294967296) : skI a 0 = a := by
 unfold skI
 rw [upN, onN]
 omega
theorem sk_succ (a : Int) (n : Nat) : skI a (n + 1) = nxI (skI a n) := by
 unfold skI nxI
 rw [mod_in, upN, onN, Int.add_mul, Int.mul_assoc, Int.add_assoc]

/-- a product and a sum, doubled. -/
def dbl (q : Int × Int) : Int × Int := (q.1 * q.1 % 4294967296, (q.2 + q.1 * q.2) % 4294967296)
def dblN : Nat → Int × Int
 | 0 => (1664525, 1013904223)
 | k + 1 => dbl (dblN k)
theorem dbl_up (p : Int) (k : Nat) (h : p = upN k % 4294967296) : p * p % 4294967296 = upN (2 * k) % 4294967296 := by
 subst h
 rw [Nat.two_mul, up_add, ← Int.mul_emod]
theorem dbl_on (p q : Int) (k : Nat) (h : p = upN k % 4294967296) (g : q = onN k % 4294967296) : (q + p * q) % 4294967296 = onN (2 * k) % 4294967296 := by
 subst h
 subst g
 rw [Nat.two_mul, on_add, Int.add_comm, Int.mul_comm, mod_in3]
theorem dbl_is (k : Nat) : (dblN k).1 = upN (2 ^ k) % 4294967296 ∧ (dblN k).2 = onN (2 ^ k) % 4294967296 := by
 induction k with
 | zero => exact ⟨by rw [Nat.pow_zero, up_one]; rfl, by rw [Nat.pow_zero, on_one]; rfl⟩
 | succ k ih =>
  rw [Nat.pow_succ, Nat.mul_comm (2 ^ k) 2]
  exact ⟨dbl_up _ _ ih.1, dbl_on _ _ _ ih.1 ih.2⟩
theorem dbl_32 : dblN 32 = (1, 0) := by decide +kernel
theorem dbl_64 : dblN 64 = (1, 0) := by decide +kernel

theorem sk_pow (a : Int) (k : Nat) (h : 0 ≤ a ∧ a < 4294967296) (g : dblN k = (1, 0)) : skI a (2 ^ k) = a := by
 obtain ⟨h1, h2⟩ := dbl_is k
 rw [g] at h1 h2
 unfold skI
 rw [← mod_in2, ← h1, ← h2]
 omega

/-- the law's words: by so many, and a number that goes round at 2^64. -/
theorem sk_parts (a n m : Int) (ha : 0 ≤ a ∧ a < 4294967296) (hn : 0 ≤ n) (hm : 0 ≤ m) (hN : n < 18446744073709551616) (hM : m < 18446744073709551616) :
 skI (skI a n.toNat) m.toNat = skI a ((n + m) % 18446744073709551616).toNat := by
 rw [sk_add]
 by_cases c : n + m < 18446744073709551616
 · rw [Int.emod_eq_of_lt (by omega) c]
   congr 1
   omega
 · have e : n.toNat + m.toNat = 2 ^ 64 + ((n + m) % 18446744073709551616).toNat := by omega
   rw [e, ← sk_add, sk_pow a 64 ha dbl_64]
theorem sk_round (a : Int) (ha : 0 ≤ a ∧ a < 4294967296) : skI a (4294967296 : Int).toNat = a := by
 have e : (4294967296 : Int).toNat = 2 ^ 32 := by decide
 rw [e, sk_pow a 32 ha dbl_32]

/-- what holds at each round of a skip of N steps from x: r is what is left of the number, s the state, p and q a product and a sum. -/
def Sk (N : Nat) (x r s p q : Int) : Prop := ∃ k d : Nat, p = upN k % 4294967296 ∧ q = onN k % 4294967296 ∧ s = skI x d ∧ d + k * r.toNat = N
theorem Sk.start (x n : Int) (h : 0 ≤ x ∧ x < 4294967296) : Sk n.toNat x n x 1664525 1013904223 :=
 ⟨1, 0, by rw [up_one]; rfl, by rw [on_one]; rfl, (sk_zero x h).symm, by omega⟩
theorem Sk.even {N : Nat} {x r s p q : Int} (h : Sk N x r s p q) (h0 : 0 ≤ r) (c : r % 2 = 0) : Sk N x (r / 2) s (p * p % 4294967296) ((q + p * q) % 4294967296) := by
 obtain ⟨k, d, hp, hq, hs, hd⟩ := h
 refine ⟨2 * k, d, dbl_up _ _ hp, dbl_on _ _ _ hp hq, hs, ?_⟩
 have e : r.toNat = 2 * (r / 2).toNat := by omega
 rw [e, ← Nat.mul_assoc, Nat.mul_comm k 2] at hd
 exact hd
theorem Sk.odd {N : Nat} {x r s p q : Int} (h : Sk N x r s p q) (h0 : 0 ≤ r) (c : r % 2 = 1) : Sk N x (r / 2) ((s * p + q) % 4294967296) (p * p % 4294967296) ((q + p * q) % 4294967296) := by
 obtain ⟨k, d, hp, hq, hs, hd⟩ := h
 refine ⟨2 * k, d + k, dbl_up _ _ hp, dbl_on _ _ _ hp hq, ?_, ?_⟩
 · rw [hp, hq, hs, mod_in2, ← sk_add]
   rfl
 · have e : r.toNat = 2 * (r / 2).toNat + 1 := by omega
   rw [e, Nat.mul_add, Nat.mul_one, ← Nat.mul_assoc, Nat.mul_comm k 2] at hd
   omega
theorem Sk.done {N : Nat} {x s p q : Int} (h : Sk N x 0 s p q) : s = skI x N := by
 obtain ⟨k, d, hp, hq, hs, hd⟩ := h
 have : d = N := by simpa using hd
 rw [hs, this]

/-- a throw. -/
def thI (s n : Int) : Int := s / 65536 * n / 65536
theorem th_bd (s n : Int) (hs : 0 ≤ s ∧ s < 4294967296) (hn : 1 ≤ n ∧ n ≤ 65536) : 0 ≤ s / 65536 * n ∧ s / 65536 * n ≤ 65535 * n ∧ 0 ≤ thI s n ∧ thI s n < n := by
 have h1 := Int.mul_nonneg (show 0 ≤ s / 65536 by omega) (show 0 ≤ n by omega)
 have h2 := Int.mul_le_mul_of_nonneg_right (show s / 65536 ≤ 65535 by omega) (show 0 ≤ n by omega)
 unfold thI
 generalize s / 65536 * n = t at h1 h2 ⊢
 omega

end Go.Proofs.YtfclnhmijjlhdaaGreatDoor.Dc

namespace Go.Proofs.YtfclnhmijjlhdaaGreatDoor.Dc
open Go.RowKit Go.Proofs.YtfclnhmijjlhdaaGreatDoor.Fx

theorem next_c (a : Int) (w : World) :
 Calls Tryz.prog 167 #[.int .u32 a] w fun e w' => e = .returned (.int .u32 (nxI a)) ∧ w = w' := by
 unfold nxI
 go_enter Tryz.func167, Tryz.ntmps167
 go_wp2
 go_ret
 exact ⟨ret_int (by omega), rfl⟩

theorem rnext_c (a : Int) (h : 0 ≤ a ∧ a < 4294967296) (w : World) :
 Calls Tryz.prog 223 #[.int .u32 a] w fun e w' => e = .returned (.int .u32 (nxI a)) ∧ w = w' := by
 unfold nxI
 go_enter Tryz.func223, Tryz.ntmps223
 go_wp2
 go_ret
 exact ⟨ret_int (by omega), rfl⟩

/-- what a throw answers: the state, the number, and why not. -/
theorem throw_no (a n : Int) (h : ¬ (1 ≤ n ∧ n ≤ 65536)) (w : World) :
 Calls Tryz.prog 139 #[.int .u32 a, .int .i64 n] w fun e w' => e = .returned (.tuple #[.int .u32 0, .int .i64 0, .int .i64 1]) ∧ w = w' := by
 have c : n < 1 ∨ (1 ≤ n ∧ 65536 < n) := by omega
 clear h
 rcases c with c | c
 all_goals
  go_enter Tryz.func139, Tryz.ntmps139
  go_wp2
  go_ret3
  exact ⟨rfl, rfl⟩

theorem throw_c (a n : Int) (h : 1 ≤ n ∧ n ≤ 65536) (w : World) :
 Calls Tryz.prog 139 #[.int .u32 a, .int .i64 n] w fun e w' => e = .returned (.tuple #[.int .u32 (nxI a), .int .i64 (thI (nxI a) n), .int .i64 0]) ∧ w = w' := by
 have hs := nx_bd a
 obtain ⟨t1, t2, t3, t4⟩ := th_bd (nxI a) n hs h
 unfold thI at t3 t4 ⊢
 go_enter Tryz.func139, Tryz.ntmps139
 go_wp2_with (go_at_call 167; ((with_reducible refine (next_c _ _).mono ?_); rintro e w' ⟨rfl, rfl⟩))
 go_ret3
 exact ⟨rfl, rfl⟩

theorem rthrow_c (a n : Int) (ha : 0 ≤ a ∧ a < 4294967296) (h : 1 ≤ n ∧ n ≤ 65536) (w : World) :
 Calls Tryz.prog 192 #[.int .u32 a, .int .i64 n] w fun e w' => e = .returned (.tuple #[.int .u32 (nxI a), .int .i64 (thI (nxI a) n)]) ∧ w = w' := by
 have hs := nx_bd a
 obtain ⟨t1, t2, t3, t4⟩ := th_bd (nxI a) n hs h
 unfold thI at t3 t4 ⊢
 go_enter Tryz.func192, Tryz.ntmps192
 go_wp2_with (go_at_call 223; ((with_reducible refine (rnext_c _ ha _).mono ?_); rintro e w' ⟨rfl, rfl⟩))
 go_ret2
 exact ⟨rfl, rfl⟩

theorem xor_bd (a b : Int) (ha : 0 ≤ a ∧ a < 4294967296) (hb : 0 ≤ b ∧ b < 4294967296) : 0 ≤ bits .xor .u32 a b ∧ bits .xor .u32 a b < 4294967296 := by
 rw [u32_xor a b ha.1 ha.2 hb.1 hb.2]
 have := Nat.xor_lt_two_pow (n := 32) (show a.toNat < 2 ^ 32 by omega) (show b.toNat < 2 ^ 32 by omega)
 omega

end Go.Proofs.YtfclnhmijjlhdaaGreatDoor.Dc
