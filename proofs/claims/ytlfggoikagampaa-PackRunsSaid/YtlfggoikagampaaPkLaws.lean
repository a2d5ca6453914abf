/- The statement PackNumbers of layer 6 (pack), as a walk: the law, called with any values of its parameters' kinds, returns true and leaves the old memory as it was. -/
import Derived.Test.YtlfggoikagampaaPkRun
namespace Go.Proofs.Ytlfggoikagampaa.Pk
open Go.RowKit Go.Proofs.Ytlfggoikagampaa.Fx

theorem btrans {a b c : World} (h : Below a.heap.size a b) (k : Below b.heap.size b c) : Below a.heap.size a c := h.trans (k.mono h.size)

theorem run_example : runL [5, 5, 5, 0] = [4, 5, 3, 0, 1] := by
  unfold runL
  rw [str_cons, show leadN 5 [5, 5, 0] = 2 by decide, show List.drop 2 ([5, 5, 0] : List UInt8) = [0] from rfl, str_cons, show leadN 0 [] = 0 by decide, show List.drop 0 ([] : List UInt8) = [] from rfl, str_nil, num_lt (by decide), num_lt (by decide), num_lt (by decide)]
  decide
theorem num_example : numL 300 = [172, 2] := by
  rw [num_ge (by decide), num_lt (by decide)]
  decide

theorem Rd.four (W : World) (a b c d : UInt8) : Rd (W.alloc (.cells #[.int .u8 (a.toNat : Int), .int .u8 (b.toNat : Int), .int .u8 (c.toNat : Int), .int .u8 (d.toNat : Int)] 5)) (.slice (some ⟨W.heap.size, 0, none⟩) 4 4) [a, b, c, d] := by
  refine ⟨_, 4, 4, rfl, rfl, by omega, by omega, fun _ => ⟨W.heap.size, 0, rfl, by simp, fun j hj => ?_⟩⟩
  rw [Nat.zero_add, World.cell?_alloc_mark]
  have hj : j < 4 := hj
  match j, hj with
  | 0, _ => rfl
  | 1, _ => rfl
  | 2, _ => rfl
  | 3, _ => rfl

theorem awake_c (w : World) :
    Calls Try.prog 7 #[] w fun e w' => e = .returned (.bool true) ∧ Below w.heap.size w w' := by
  have H : Hid (Calls Try.prog 15 #[.slice (some ⟨w.heap.size, 0, none⟩) 4 4] (w.alloc (.cells #[.int .u8 5, .int .u8 5, .int .u8 5, .int .u8 0] 5)) fun e w' => e = .returned (.tuple #[.string ⟨#[4, 5, 3, 0, 1]⟩, .int .i64 0]) ∧ Below (w.alloc (.cells #[.int .u8 5, .int .u8 5, .int .u8 5, .int .u8 0] 5)).heap.size (w.alloc (.cells #[.int .u8 5, .int .u8 5, .int .u8 5, .int .u8 0] 5)) w') := by
    have := run_ok _ [5, 5, 5, 0] _ (Rd.four w 5 5 5 0) (by decide)
    rw [run_example] at this
    exact this
  have H2 : Hid (∀ W : World, Calls Try.prog 8 #[.int .u64 300] W fun e w' => e = .returned (.string ⟨#[172, 2]⟩) ∧ Below W.heap.size W w') := by
    intro W
    have := number_i 300 300 W rfl (by decide)
    rw [num_example] at this
    exact this
  go_enter Try.func7, Try.ntmps7
  go_wp2_with (first
    | (go_at_call 15; ((with_reducible refine H.out.mono ?_); rintro e w1 ⟨rfl, hw1⟩))
    | (go_at_call 8; ((with_reducible refine (H2.out _).mono ?_); rintro e w2 ⟨rfl, hw2⟩)))
  go_ret
  exact ⟨rfl, btrans (btrans ((Below.refl _ w).alloc (Nat.le_refl _) _) hw1) hw2⟩

set_option maxRecDepth 100000 in
set_option maxHeartbeats 2000000 in
theorem numbers_w (n : Nat) (m : Int) (s : ByteArray) (w : World) (hn : n < 18446744073709551616) (hm0 : -9223372036854775808 ≤ m) (hm1 : m ≤ 9223372036854775807) (hs : s.size ≤ maxLen) :
    Calls Try.prog 3 #[.int .u64 (n : Int), .int .i64 m, .string s] w fun e w' => e = .returned (.bool true) ∧ Below w.heap.size w w' := by
  unfold maxLen at hs
  by_cases h : 200 < s.size
  · go_enter Try.func3, Try.ntmps3
    go_wp2_with (go_at_call 7; ((with_reducible refine (awake_c _).mono ?_); rintro e w' ⟨rfl, hw⟩))
    go_ret
    exact ⟨rfl, hw⟩
  · have H1 := hid (fun W => number_c n W hn)
    have H2 := hid (fun W => rnumber_c n W hn)
    have H3 := hid (fun W => signed_c m W hm0 hm1)
    have H4 := hid (fun W => rsigned_c m W hm0 hm1)
    have z1 : (⟨(numL n).toArray⟩ : ByteArray).size = (numL n).length := List.size_toArray
    have z2 : (⟨(numL (sgnN m)).toArray⟩ : ByteArray).size = (numL (sgnN m)).length := List.size_toArray
    have l1 := num_len10 n hn
    have l2 := num_len10 (sgnN m) (sgn_bd m hm0 hm1)
    have r1 : rdN ((⟨(numL n).toArray⟩ : ByteArray) ++ s).data.toList = (n, (numL n).length, 0) := by
      rw [ByteArray.data_append, Array.toList_append]; exact rd_num n _ hn
    have r2 : rdN ((⟨(numL (sgnN m)).toArray⟩ : ByteArray) ++ s).data.toList = (sgnN m, (numL (sgnN m)).length, 0) := by
      rw [ByteArray.data_append, Array.toList_append]; exact rd_num (sgnN m) _ (sgn_bd m hm0 hm1)
    have H5 : Hid (∀ W : World, Calls Try.prog 10 #[.string ((⟨(numL n).toArray⟩ : ByteArray) ++ s)] W fun e w' => e = .returned (.tuple #[.int .u64 (n : Int), .int .i64 ((⟨(numL n).toArray⟩ : ByteArray).size : Int), .int .i64 0]) ∧ W = w') := by
      intro W
      have := read_c ((⟨(numL n).toArray⟩ : ByteArray) ++ s) W (by rw [ByteArray.size_append, z1]; unfold maxLen; omega)
      rw [r1] at this
      exact this
    have H6 : Hid (∀ W : World, Calls Try.prog 11 #[.string ((⟨(numL (sgnN m)).toArray⟩ : ByteArray) ++ s)] W fun e w' => e = .returned (.tuple #[.int .i64 m, .int .i64 ((⟨(numL (sgnN m)).toArray⟩ : ByteArray).size : Int), .int .i64 0]) ∧ W = w') := by
      intro W
      have := readS_c ((⟨(numL (sgnN m)).toArray⟩ : ByteArray) ++ s) W (by rw [ByteArray.size_append, z2]; unfold maxLen; omega)
      rw [r2, show rsV (sgnN m, (numL (sgnN m)).length, 0) = .tuple #[.int .i64 (unsN (sgnN m)), .int .i64 ((numL (sgnN m)).length : Int), .int .i64 0] from rfl, uns_sgn] at this
      exact this
    have a1 : ∀ W : World, (Op.stringOp .add (⟨(numL n).toArray⟩ : ByteArray) s).run Try.prog W = .ok (.string ((⟨(numL n).toArray⟩ : ByteArray) ++ s)) W := fun W => run_string_add_sum W _ _ (by rw [z1]; omega)
    have a2 : ∀ W : World, (Op.stringOp .add (⟨(numL (sgnN m)).toArray⟩ : ByteArray) s).run Try.prog W = .ok (.string ((⟨(numL (sgnN m)).toArray⟩ : ByteArray) ++ s)) W := fun W => run_string_add_sum W _ _ (by rw [z2]; omega)
    clear r1 r2
    generalize (⟨(numL n).toArray⟩ : ByteArray) = S at H1 H2 H5 a1 z1
    generalize (⟨(numL (sgnN m)).toArray⟩ : ByteArray) = T at H3 H4 H6 a2 z2
    rw [← z1] at l1
    rw [← z2] at l2
    clear z1 z2
    go_enter Try.func3, Try.ntmps3
    go_wp2_with (first
      | (go_at_call 7; ((with_reducible refine (awake_c _).mono ?_); rintro e w1 ⟨rfl, hw1⟩))
      | (go_at_call 8; ((with_reducible refine (H1.out _).mono ?_); rintro e w2 ⟨rfl, hw2⟩))
      | (go_at_call 9; ((with_reducible refine (H3.out _).mono ?_); rintro e w3 ⟨rfl, hw3⟩))
      | (go_at_call 10; ((with_reducible refine (H5.out _).mono ?_); rintro e w' ⟨rfl, rfl⟩))
      | (go_at_call 11; ((with_reducible refine (H6.out _).mono ?_); rintro e w' ⟨rfl, rfl⟩))
      | (go_at_call 12; ((with_reducible refine (H2.out _).mono ?_); rintro e w4 ⟨rfl, hw4⟩))
      | (go_at_call 13; ((with_reducible refine (H4.out _).mono ?_); rintro e w5 ⟨rfl, hw5⟩)))
    go_ret
    exact ⟨rfl, btrans (btrans (btrans (btrans hw1 hw2) hw3) hw4) hw5⟩

theorem numbers_i (x m : Int) (s : ByteArray) (w : World) (hx0 : 0 ≤ x) (hx1 : x ≤ 18446744073709551615) (hm0 : -9223372036854775808 ≤ m) (hm1 : m ≤ 9223372036854775807) (hs : s.size ≤ maxLen) :
    Calls Try.prog 3 #[.int .u64 x, .int .i64 m, .string s] w fun e w' => e = .returned (.bool true) ∧ Below w.heap.size w w' := by
  obtain ⟨n, rfl⟩ : ∃ n : Nat, x = (n : Int) := ⟨x.toNat, by omega⟩
  exact numbers_w n m s w (by omega) hm0 hm1 hs
end Go.Proofs.Ytlfggoikagampaa.Pk
