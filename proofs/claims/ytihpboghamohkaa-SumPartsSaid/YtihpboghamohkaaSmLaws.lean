/- The statements SumOf and SumParts of layer 5 (sum), as walks: each law, called with any values of its parameters' kinds, returns true and leaves the old memory as it was. -/
import Derived.Test.YtihpboghamohkaaSmJoin
import Derived.Test.YtihpboghamohkaaSmOpen
import Derived.Laws.Bits64
import Derived.Deep.QuietTactic
import Derived.BigQuiet
import Derived.Deep.DeepCutAuto
namespace Go.Proofs.Ytihpboghamohkaa.Sm
open Go.RowKit Go.Proofs.Ytihpboghamohkaa.Fx

theorem sumOf_w (s : ByteArray) (n : Int) (w : World) (h0 : 0 ≤ n) (h1 : n < 4294967296) (hs : s.size ≤ maxLen) :
    Calls Try.prog 3 #[.string s, .int .u32 n] w fun e w' => e = .returned (.bool true) ∧ Below w.heap.size w w' := by
  have Hs := hid hs
  unfold maxLen at hs
  by_cases h : 20000 < s.size
  · go_enter Try.func3, Try.ntmps3
    go_wp2_with (go_at_call 7; ((with_reducible refine (awake_c _).mono ?_); rintro e w' ⟨rfl, rfl⟩))
    go_ret
    exact ⟨rfl, Below.refl _ _⟩
  · go_enter Try.func3, Try.ntmps3
    go_wp2_with (first
      | (go_at_call 7; ((with_reducible refine (awake_c _).mono ?_); rintro e w' ⟨rfl, rfl⟩))
      | (go_at_call 8; ((with_reducible refine (of_c _ _ Hs.out).mono ?_); rintro e w' ⟨rfl, rfl⟩))
      | (go_at_call 9; ((with_reducible refine (rof_c _ _ Hs.out).mono ?_); rintro e w' ⟨rfl, rfl⟩))
      | (go_at_call 10; ((with_reducible refine (more_c _ _ _ Hs.out h0 h1).mono ?_); rintro e w' ⟨rfl, rfl⟩))
      | (go_at_call 11; ((with_reducible refine (rmore_c _ _ _ Hs.out h0 h1).mono ?_); rintro e w' ⟨rfl, rfl⟩)))
    go_ret
    exact ⟨rfl, Below.refl _ _⟩

/-- a place among M, however it is told. -/
theorem part_of (x M : Int) (h0 : 0 < M) (h1 : M ≤ 4611686018427387904) : ∃ k : Nat, (k : Int) < M ∧ wrap64 ((IntKind.u64.wrap x).tmod M) = k := by
  have hw : 0 ≤ IntKind.u64.wrap x := by rw [IntKind.wrap_u64]; omega
  have e : (IntKind.u64.wrap x).tmod M = IntKind.u64.wrap x % M := Int.tmod_eq_emod_of_nonneg hw
  have b0 := Int.emod_nonneg (IntKind.u64.wrap x) (show M ≠ 0 by omega)
  have b1 := Int.emod_lt_of_pos (IntKind.u64.wrap x) h0
  refine ⟨(IntKind.u64.wrap x % M).toNat, by omega, ?_⟩
  rw [e, IntWalk.wrap64_in _ (by omega)]
  omega

/-- what of a and b and n joins. -/
theorem right_or (a b n : Int) : (0 ≤ n ∧ n ≤ 2147483648 ∧ rightB a = true ∧ rightB b = true) ∨ ¬ (0 ≤ n ∧ n ≤ 2147483648 ∧ rightB a = true ∧ rightB b = true) ∧ (n < 0 ∨ (0 ≤ n ∧ 2147483648 < n) ∨ (0 ≤ n ∧ n ≤ 2147483648 ∧ rightB a = false) ∨ (0 ≤ n ∧ n ≤ 2147483648 ∧ rightB a = true ∧ rightB b = false)) := by
  cases e1 : rightB a <;> cases e2 : rightB b <;> simp <;> omega

set_option maxHeartbeats 1000000 in
theorem parts_w (s : ByteArray) (at' a b n : Int) (w : World) (ha : 0 ≤ a) (ha1 : a < 4294967296) (hb : 0 ≤ b) (hb1 : b < 4294967296) (hs : s.size ≤ maxLen) :
    Calls Try.prog 4 #[.string s, .int .i64 at', .int .u32 a, .int .u32 b, .int .i64 n] w fun e w' => e = .returned (.bool true) ∧ Below w.heap.size w w' := by
  have Hs := hid hs
  unfold maxLen at hs
  by_cases h : 20000 < s.size
  · go_enter Try.func4, Try.ntmps4
    go_wp2_with (go_at_call 7; ((with_reducible refine (awake_c _).mono ?_); rintro e w' ⟨rfl, rfl⟩))
    go_ret
    exact ⟨rfl, Below.refl _ _⟩
  · obtain ⟨k, hk, e⟩ := part_of at' (s.size + 1) (by omega) (by omega)
    have hk : k ≤ s.size := by omega
    have E := hid e
    clear e
    have hY : (List.take (s.size - k) (List.drop k s.data.toList)) = List.drop k s.data.toList := List.take_of_length_le (by rw [List.length_drop, ← Lib.size_eq]; omega)
    have hXY : List.take k s.data.toList ++ List.take (s.size - k) (List.drop k s.data.toList) = s.data.toList := by rw [hY, List.take_append_drop]
    have hl : ((List.take (s.size - k) (List.drop k s.data.toList)).length : Int) = (s.size : Int) - (k : Int) := by rw [hY, List.length_drop, ← Lib.size_eq]; omega
    have j := join_is (List.take k s.data.toList) (List.take (s.size - k) (List.drop k s.data.toList))
    rw [hXY, hl] at j
    have m := more_more 1 (List.take k s.data.toList) (List.take (s.size - k) (List.drop k s.data.toList))
    rw [hXY] at m
    have hx : (s.extract k s.size).data.toList = List.take (s.size - k) (List.drop k s.data.toList) := by rw [← ByteArray.toList_eq, Lib.extract_toList]
    have Hm : Hid (moreI (ofI (List.take k s.data.toList)) (s.extract k s.size).data.toList = ofI s.data.toList) := by rw [hx]; exact m
    clear hx
    have Hx := hid (of_bd (List.take k s.data.toList))
    have Hj : Hid (∀ W : World, Calls Try.prog 12 #[.int .u32 (ofI (List.take k s.data.toList)), .int .u32 (ofI (List.take (s.size - k) (List.drop k s.data.toList))), .int .i64 ((s.size : Int) - (k : Int))] W fun e w' => e = .returned (.tuple #[.int .u32 (ofI s.data.toList), .int .i64 0]) ∧ W = w') := by
      intro W
      have x := join_ok (ofI (List.take k s.data.toList)) (ofI (List.take (s.size - k) (List.drop k s.data.toList))) ((s.size : Int) - (k : Int)) W (of_bd _).1 (of_bd _).2 (of_bd _).1 (of_bd _).2 (by omega) (by omega) (right_more 1 _) (right_more 1 _)
      rwa [j] at x
    have z0 : (s.extract 0 k).size ≤ maxLen := by rw [ByteArray.size_extract]; unfold maxLen; omega
    have z1 : (s.extract k s.size).size ≤ maxLen := by rw [ByteArray.size_extract]; unfold maxLen; omega
    have Z0 := hid z0
    have Z1 := hid z1
    clear hY hXY hl j m z0 z1
    rcases right_or a b n with ⟨r1, r2, r3, r4⟩ | ⟨hn, c⟩
    · have Hj2 := hid (fun W => join_ok a b n W ha ha1 hb hb1 r1 r2 r3 r4)
      go_enter Try.func4, Try.ntmps4
      go_upto_region 6 with (go_at_call 7; ((with_reducible refine (awake_c _).mono ?_); rintro e w' ⟨rfl, rfl⟩))
      rw [E.out]
      go_region_with (go_at_call 8; first | ((with_reducible refine (of_c _ _ Z0.out).mono ?_); rintro e w' ⟨rfl, rfl⟩) | ((with_reducible refine (of_c _ _ Z1.out).mono ?_); rintro e w' ⟨rfl, rfl⟩))
      go_wp2_with (first
        | (go_at_call 12; ((with_reducible refine (Hj.out _).mono ?_); rintro e w' ⟨rfl, rfl⟩))
        | (go_at_call 12; ((with_reducible refine (Hj2.out _).mono ?_); rintro e w' ⟨rfl, rfl⟩))
        | (go_at_call 13; ((with_reducible refine (right_c _ _ (by omega) (by omega)).mono ?_); rintro e w' ⟨rfl, rfl⟩))
        | (go_at_call 10; ((with_reducible refine (more_c _ _ _ Z1.out Hx.out.1 Hx.out.2).mono ?_); rintro e w' ⟨rfl, rfl⟩; rw [Hm.out]))
        | (go_at_call 8; ((with_reducible refine (of_c _ _ Hs.out).mono ?_); rintro e w' ⟨rfl, rfl⟩)))
      go_ret
      exact ⟨rfl, (Below.refl _ _).drew⟩
    · have Hj2 := hid (fun W => join_no a b n W ha ha1 hb hb1 hn)
      clear hn
      rcases c with c | ⟨c1, c2⟩ | ⟨c1, c2, c3⟩ | ⟨c1, c2, c3, c4⟩
      all_goals
        go_enter Try.func4, Try.ntmps4
        go_upto_region 6 with (go_at_call 7; ((with_reducible refine (awake_c _).mono ?_); rintro e w' ⟨rfl, rfl⟩))
        rw [E.out]
        go_region_with (go_at_call 8; first | ((with_reducible refine (of_c _ _ Z0.out).mono ?_); rintro e w' ⟨rfl, rfl⟩) | ((with_reducible refine (of_c _ _ Z1.out).mono ?_); rintro e w' ⟨rfl, rfl⟩))
        go_wp2_with (first
          | (go_at_call 12; ((with_reducible refine (Hj.out _).mono ?_); rintro e w' ⟨rfl, rfl⟩))
          | (go_at_call 12; ((with_reducible refine (Hj2.out _).mono ?_); rintro e w' ⟨rfl, rfl⟩))
          | (go_at_call 13; ((with_reducible refine (right_c _ _ (by omega) (by omega)).mono ?_); rintro e w' ⟨rfl, rfl⟩))
          | (go_at_call 10; ((with_reducible refine (more_c _ _ _ Z1.out Hx.out.1 Hx.out.2).mono ?_); rintro e w' ⟨rfl, rfl⟩; rw [Hm.out]))
          | (go_at_call 8; ((with_reducible refine (of_c _ _ Hs.out).mono ?_); rintro e w' ⟨rfl, rfl⟩)))
        go_ret
        exact ⟨rfl, (Below.refl _ _).drew⟩

end Go.Proofs.Ytihpboghamohkaa.Sm
