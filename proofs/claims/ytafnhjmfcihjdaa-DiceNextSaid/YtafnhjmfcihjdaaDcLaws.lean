/- The three statements of layer 9 (dice), as walks: each law, called with any numbers of its parameters' kinds, returns true and leaves the memory as it was. -/
import Derived.Test.YtafnhjmfcihjdaaDcCalls
namespace Go.Proofs.Ytafnhjmfcihjdaa.Dc
open Go.RowKit Go.Proofs.Ytafnhjmfcihjdaa.Fx

theorem awake_c (w : World) :
    Calls Try.prog 6 #[] w fun e w' => e = .returned (.bool true) ∧ w = w' := by
  have H1 := hid (show nxI 0 = 1013904223 by decide)
  have H2 := hid (show bkI 1013904223 = 0 by decide)
  have H3 := hid (show nxI 1 = 1015568748 by decide)
  go_enter Try.func6, Try.ntmps6
  go_wp2_with (first
    | (go_at_call 7; ((with_reducible refine (next_c _ _).mono ?_); rintro e w' ⟨rfl, rfl⟩; (first | rw [H1.out] | rw [H3.out])))
    | (go_at_call 9; ((with_reducible refine (back_c _ _).mono ?_); rintro e w' ⟨rfl, rfl⟩; rw [H2.out])))
  go_ret
  exact ⟨rfl, rfl⟩

theorem next_w (a b : Int) (ha : 0 ≤ a ∧ a < 4294967296) (hb : 0 ≤ b ∧ b < 4294967296) (w : World) :
    Calls Try.prog 3 #[.int .u32 a, .int .u32 b] w fun e w' => e = .returned (.bool true) ∧ w = w' := by
  have H1 := hid (bk_nx a ha)
  have H2 := hid (nx_bk a ha)
  by_cases h : a = b
  · subst h
    clear hb
    go_enter Try.func3, Try.ntmps3
    go_wp2_with (first
      | (go_at_call 6; ((with_reducible refine (awake_c _).mono ?_); rintro e w' ⟨rfl, rfl⟩))
      | (go_at_call 7; ((with_reducible refine (next_c _ _).mono ?_); rintro e w' ⟨rfl, rfl⟩; (try rw [H2.out])))
      | (go_at_call 9; ((with_reducible refine (back_c _ _).mono ?_); rintro e w' ⟨rfl, rfl⟩; (try rw [H1.out])))
      | (go_at_call 10; ((with_reducible refine (seed_c _ _ _).mono ?_); rintro e w' ⟨rfl, rfl⟩))
      | (go_at_call 11; ((with_reducible refine (rseed_c _ _ ha ha _).mono ?_); rintro e w' ⟨rfl, rfl⟩))
      | (go_at_call 8; ((with_reducible refine (rnext_c _ ha _).mono ?_); rintro e w' ⟨rfl, rfl⟩)))
    go_ret
    exact ⟨rfl, rfl⟩
  · have k1 : (a == b) = false := by simpa using h
    have k2 : (nxI a == nxI b) = false := by simpa using nx_ne a b ha hb h
    go_enter Try.func3, Try.ntmps3
    go_wp2_with (first
      | (go_at_call 6; ((with_reducible refine (awake_c _).mono ?_); rintro e w' ⟨rfl, rfl⟩))
      | (go_at_call 7; ((with_reducible refine (next_c _ _).mono ?_); rintro e w' ⟨rfl, rfl⟩; (try rw [H2.out])))
      | (go_at_call 9; ((with_reducible refine (back_c _ _).mono ?_); rintro e w' ⟨rfl, rfl⟩; (try rw [H1.out])))
      | (go_at_call 10; ((with_reducible refine (seed_c _ _ _).mono ?_); rintro e w' ⟨rfl, rfl⟩))
      | (go_at_call 11; ((with_reducible refine (rseed_c _ _ ha hb _).mono ?_); rintro e w' ⟨rfl, rfl⟩))
      | (go_at_call 8; ((with_reducible refine (rnext_c _ ha _).mono ?_); rintro e w' ⟨rfl, rfl⟩)))
    go_ret
    exact ⟨rfl, rfl⟩

theorem throws_w (a n : Int) (ha : 0 ≤ a ∧ a < 4294967296) (w : World) :
    Calls Try.prog 5 #[.int .u32 a, .int .i64 n] w fun e w' => e = .returned (.bool true) ∧ w = w' := by
  by_cases h : 1 ≤ n ∧ n ≤ 65536
  · obtain ⟨-, -, t3, t4⟩ := th_bd (nxI a) n (nx_bd a) h
    go_enter Try.func5, Try.ntmps5
    go_wp2_with (first
      | (go_at_call 6; ((with_reducible refine (awake_c _).mono ?_); rintro e w' ⟨rfl, rfl⟩))
      | (go_at_call 13; ((with_reducible refine (throw_c _ _ h _).mono ?_); rintro e w' ⟨rfl, rfl⟩))
      | (go_at_call 14; ((with_reducible refine (rthrow_c _ _ ha h _).mono ?_); rintro e w' ⟨rfl, rfl⟩)))
    go_ret
    exact ⟨rfl, rfl⟩
  · have c : n < 1 ∨ (1 ≤ n ∧ 65536 < n) := by omega
    rcases c with c | c
    all_goals
      go_enter Try.func5, Try.ntmps5
      go_wp2_with (first
        | (go_at_call 6; ((with_reducible refine (awake_c _).mono ?_); rintro e w' ⟨rfl, rfl⟩))
        | (go_at_call 13; ((with_reducible refine (throw_no _ _ h _).mono ?_); rintro e w' ⟨rfl, rfl⟩)))
      go_ret
      exact ⟨rfl, rfl⟩

theorem skips_w (a n m f : Int) (ha : 0 ≤ a ∧ a < 4294967296) (hn : 0 ≤ n ∧ n < 18446744073709551616) (hm : 0 ≤ m ∧ m < 18446744073709551616) (hf : 0 ≤ f ∧ f < 256) (w : World) :
    Calls Try.prog 4 #[.int .u32 a, .int .u64 n, .int .u64 m, .int .u8 f] w fun e w' => e = .returned (.bool true) ∧ w = w' := by
  have H1 := hid (sk_zero a ha)
  have H2 := hid (show skI (skI a n.toNat) m.toNat = skI a (IntKind.u64.wrap (n + m)).toNat by rw [IntKind.wrap_u64]; exact sk_parts a n m ha hn.1 hm.1 hn.2 hm.2)
  have H5 := hid (show 0 ≤ IntKind.u64.wrap (n + m) ∧ IntKind.u64.wrap (n + m) < 18446744073709551616 by rw [IntKind.wrap_u64]; omega)
  have H3 := hid (sk_round a ha)
  go_enter Try.func4, Try.ntmps4
  go_wp2_with (go_at_call 6; ((with_reducible refine (awake_c _).mono ?_); rintro e w' ⟨rfl, rfl⟩))
  go_loop [9, 10] (fun s i => ∃ k : Nat, (k : Int) ≤ f ∧ s = .int .u32 (skI a k) ∧ i = .int .i64 (k : Int)) (fun _ i => (f - intOf i).toNat)
  case atStart => exact ⟨0, by omega, by rw [H1.out], rfl⟩
  case round =>
    obtain ⟨k, hk, rfl, rfl⟩ := hrel
    by_cases c : (k : Int) = f
    · have H4 := hid (show skI a f.toNat = skI a k by congr 1; omega)
      subst c
      go_wp2_with (go_at_call 12; ((with_reducible refine (skip_c _ _ (by first | exact ha | exact sk_bd _ _) (by first | exact H5.out | omega) _).mono ?_); rintro e w' ⟨rfl, rfl⟩; (first | rw [H2.out] | rw [H3.out] | rw [H4.out] | skip)))
      go_ret
      exact ⟨rfl, rfl⟩
    · have c2 : (k : Int) < f := by omega
      have hs := sk_bd a k
      have H4 := hid (sk_succ a k)
      go_wp2_with (go_at_call 8; ((with_reducible refine (rnext_c _ hs _).mono ?_); rintro e w' ⟨rfl, rfl⟩; rw [← H4.out]))
      go_round
      case rel => exact ⟨k + 1, by omega, rfl, rfl⟩
      case measure => simp [intOf]; omega

end Go.Proofs.Ytafnhjmfcihjdaa.Dc
