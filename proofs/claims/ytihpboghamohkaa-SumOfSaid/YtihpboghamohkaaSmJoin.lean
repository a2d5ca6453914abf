/- What sum.Join returns when it is called with any numbers of its parameters' kinds. -/
import Derived.Test.YtihpboghamohkaaSmCalls
namespace Go.Proofs.Ytihpboghamohkaa.Sm
open Go.RowKit Go.Proofs.Ytihpboghamohkaa.Fx

theorem prod_bd (x y : Int) (hx : 0 ≤ x ∧ x < 65521) (hy : 0 ≤ y ∧ y < 65521) : 0 ≤ x * y ∧ x * y < 4294967296 := by
  have h1 := Int.mul_nonneg hx.1 hy.1
  have h2 := Int.mul_le_mul (show x ≤ 65520 by omega) (show y ≤ 65520 by omega) hy.1 (by omega)
  omega

theorem ret2_int {k : IntKind} {a b : Int} {v : Value} (h : a = b) : Ending.returned (.tuple #[.int k a, v]) = .returned (.tuple #[.int k b, v]) := by rw [h]
theorem join_form (x y m u v : Int) (hm : 0 ≤ m ∧ m < 65521) : (x + y + m * ((v + 65521 - 1) % 65521) % 4294967296) % 65521 * 65536 + (u + (v + 65521 - 1)) % 65521 = (x + y + m * ((v + 65520) % 65521) % 65521) % 65521 * 65536 + (u + (v + 65520) % 65521) % 65521 := by
  rw [show v + 65521 - 1 = v + 65520 by omega]
  have h := prod_bd m ((v + 65520) % 65521) hm (by omega)
  generalize m * ((v + 65520) % 65521) = z at h ⊢
  omega

set_option maxHeartbeats 400000 in
theorem join_ok (a b n : Int) (w : World) (ha : 0 ≤ a) (ha1 : a < 4294967296) (hb : 0 ≤ b) (hb1 : b < 4294967296) (hn : 0 ≤ n) (hn1 : n ≤ 2147483648) (ra : rightB a = true) (rb : rightB b = true) :
    Calls Try.prog 12 #[.int .u32 a, .int .u32 b, .int .i64 n] w fun e w' => e = .returned (.tuple #[.int .u32 (joinI a b n), .int .i64 0]) ∧ w = w' := by
  have ra' : a / 65536 < 65521 ∧ a % 65536 < 65521 := by unfold rightB at ra; simpa using ra
  have rb' : b / 65536 < 65521 ∧ b % 65536 < 65521 := by unfold rightB at rb; simpa using rb
  obtain ⟨ra1, ra2⟩ := ra'
  obtain ⟨rb1, rb2⟩ := rb'
  have hj := hid (join_form (a / 65536) (b / 65536) (n % 65521) (b % 65536) (a % 65536) (by omega))
  unfold joinI
  go_enter Try.func12, Try.ntmps12
  go_wp2_with (first
    | (go_at_call 19; ((with_reducible refine (isSum_c _ _ (by omega) (by omega)).mono ?_); rintro e w' ⟨rfl, rfl⟩))
    | (go_at_call 17; ((with_reducible refine (halves_c _ _ (by omega) (by omega)).mono ?_); rintro e w' ⟨rfl, rfl⟩))
    | (go_at_call 18; ((with_reducible refine (whole_c _ _ _ (by omega) (by omega) (by omega) (by omega)).mono ?_); rintro e w' ⟨rfl, rfl⟩)))
  go_ret2
  exact ⟨ret2_int hj.out, rfl⟩

set_option maxHeartbeats 400000 in
theorem join_no (a b n : Int) (w : World) (ha : 0 ≤ a) (ha1 : a < 4294967296) (hb : 0 ≤ b) (hb1 : b < 4294967296) (h : ¬ (0 ≤ n ∧ n ≤ 2147483648 ∧ rightB a = true ∧ rightB b = true)) :
    Calls Try.prog 12 #[.int .u32 a, .int .u32 b, .int .i64 n] w fun e w' => e = .returned (.tuple #[.int .u32 0, .int .i64 1]) ∧ w = w' := by
  have c : n < 0 ∨ (0 ≤ n ∧ 2147483648 < n) ∨ (0 ≤ n ∧ n ≤ 2147483648 ∧ rightB a = false) ∨ (0 ≤ n ∧ n ≤ 2147483648 ∧ rightB a = true ∧ rightB b = false) := by
    cases e1 : rightB a <;> cases e2 : rightB b <;> simp only [e1, e2] at h ⊢ <;> simp at h ⊢ <;> omega
  clear h
  rcases c with c | ⟨c1, c2⟩ | ⟨c1, c2, c3⟩ | ⟨c1, c2, c3, c4⟩
  all_goals
    go_enter Try.func12, Try.ntmps12
    go_wp2_with (go_at_call 19; ((with_reducible refine (isSum_c _ _ (by omega) (by omega)).mono ?_); rintro e w' ⟨rfl, rfl⟩))
    go_ret2
    exact ⟨rfl, rfl⟩

end Go.Proofs.Ytihpboghamohkaa.Sm
