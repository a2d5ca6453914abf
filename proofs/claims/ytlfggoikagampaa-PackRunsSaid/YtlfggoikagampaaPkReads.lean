/- The statement PackReads of layer 6 (pack), as a walk: the law, called with any bytes, returns true and leaves the old memory as it was. -/
import Derived.Test.YtlfggoikagampaaPkLaws
namespace Go.Proofs.Ytlfggoikagampaa.Pk
open Go.RowKit Go.Proofs.Ytlfggoikagampaa.Fx

theorem extract_eq {s : ByteArray} {l : List UInt8} {k : Nat} (h : l = s.data.toList.take k) : (⟨l.toArray⟩ : ByteArray) = s.extract 0 k := by
  rw [h, Lib.extract_eq, List.drop_zero, Nat.sub_zero]

set_option maxRecDepth 100000 in
set_option maxHeartbeats 2000000 in
theorem reads_w (s : ByteArray) (w : World) (hs : s.size ≤ maxLen) :
    Calls Try.prog 4 #[.string s] w fun e w' => e = .returned (.bool true) ∧ Below w.heap.size w w' := by
  have Hs := hid hs
  unfold maxLen at hs
  by_cases h : 200 < s.size
  · go_enter Try.func4, Try.ntmps4
    go_wp2_with (go_at_call 7; ((with_reducible refine (awake_c _).mono ?_); rintro e w' ⟨rfl, hw⟩))
    go_ret
    exact ⟨rfl, hw⟩
  · have c1 := hid (fun W => read_c s W Hs.out)
    have c2 := hid (fun W => rread_c s W Hs.out)
    have c3 := hid (fun W => readS_c s W Hs.out)
    rcases rd_or s.data.toList with h0 | ⟨h0, h34⟩
    · have hb := rd_back s.data.toList h0
      generalize rdN s.data.toList = r at c1 c2 c3 h0 hb
      obtain ⟨a, b, c⟩ := r
      obtain rfl : c = 0 := h0
      dsimp only at hb
      rw [show rdV (a, b, 0) = .tuple #[.int .u64 (a : Int), .int .i64 (b : Int), .int .i64 0] from rfl] at c1 c2
      rw [show rsV (a, b, 0) = .tuple #[.int .i64 (unsN a), .int .i64 (b : Int), .int .i64 0] from rfl] at c3
      obtain ⟨hb1, hb2, hb3, hb4⟩ := hb
      have hb2 : b ≤ s.size := by simpa using hb2
      have e := extract_eq hb3
      have n1 := fun W => number_c a W hb4
      have n2 := fun W => signed_c (unsN a) W (uns_bd a hb4).1 (uns_bd a hb4).2
      rw [sgn_uns] at n2
      rw [e] at n1 n2
      have N1 := hid n1
      have N2 := hid n2
      clear n1 n2 e hb3 hb4
      generalize unsN a = d at c3 N2
      go_enter Try.func4, Try.ntmps4
      go_wp2_with (first
        | (go_at_call 7; ((with_reducible refine (awake_c _).mono ?_); rintro e w1 ⟨rfl, hw1⟩))
        | (go_at_call 10; ((with_reducible refine (c1.out _).mono ?_); rintro e w' ⟨rfl, rfl⟩))
        | (go_at_call 14; ((with_reducible refine (c2.out _).mono ?_); rintro e w' ⟨rfl, rfl⟩))
        | (go_at_call 11; ((with_reducible refine (c3.out _).mono ?_); rintro e w' ⟨rfl, rfl⟩)))
      go_region_with (first
        | (go_at_call 8; refine (N1.out _).mono ?_; rintro e w2 ⟨rfl, hw2⟩)
        | (go_at_call 9; refine (N2.out _).mono ?_; rintro e w3 ⟨rfl, hw3⟩))
      all_goals
        go_wp2_with fail
        go_ret
        have hw2' : Below w1.heap.size w1 w2 := ⟨hw2.os, hw2.tape, hw2.output, hw2.size, hw2.block⟩
        exact ⟨rfl, btrans (btrans hw1 hw2') hw3⟩
    · generalize rdN s.data.toList = r at c1 c2 c3 h0 h34
      obtain ⟨a, b, c⟩ := r
      have ha : a = 0 := congrArg Prod.fst h0
      have hb : b = 0 := congrArg (fun x => x.2.1) h0
      subst ha hb
      dsimp only at h34
      clear h0
      rw [show rdV (0, 0, c) = .tuple #[.int .u64 0, .int .i64 0, .int .i64 (c : Int)] from rfl] at c1 c2
      rw [show rsV (0, 0, c) = .tuple #[.int .i64 0, .int .i64 0, .int .i64 (c : Int)] by simp [rsV, unsN]] at c3
      rcases h34 with rfl | rfl
      all_goals
        go_enter Try.func4, Try.ntmps4
        go_wp2_with (first
          | (go_at_call 7; ((with_reducible refine (awake_c _).mono ?_); rintro e w1 ⟨rfl, hw1⟩))
          | (go_at_call 10; ((with_reducible refine (c1.out _).mono ?_); rintro e w' ⟨rfl, rfl⟩))
          | (go_at_call 14; ((with_reducible refine (c2.out _).mono ?_); rintro e w' ⟨rfl, rfl⟩))
          | (go_at_call 11; ((with_reducible refine (c3.out _).mono ?_); rintro e w' ⟨rfl, rfl⟩)))
        go_ret
        exact ⟨rfl, hw1⟩
end Go.Proofs.Ytlfggoikagampaa.Pk
