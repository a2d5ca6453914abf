/- The statement PackTells of layer 6 (pack), as a walk: the law, called with any bytes, returns true and leaves the old memory as it was. -/
import Derived.Test.YtlfggoikagampaaPkReads
import Derived.Test.YtlfggoikagampaaPkRRef
namespace Go.Proofs.Ytlfggoikagampaa.Pk
open Go.RowKit Go.Proofs.Ytlfggoikagampaa.Fx

theorem below_draws (w : World) (q : Nat) : Below w.heap.size w (w.drewN q) := ⟨rfl, rfl, rfl, Nat.le_refl _, fun _ _ => rfl⟩

set_option maxRecDepth 100000 in
set_option maxHeartbeats 2000000 in
theorem tells_w (s : ByteArray) (w : World) (hs : s.size ≤ maxLen) :
    Calls Try.prog 6 #[.string s] w fun e w' => e = .returned (.bool true) ∧ Below w.heap.size w w' := by
  unfold maxLen at hs
  by_cases h : 400 < s.size
  · go_enter Try.func6, Try.ntmps6
    go_wp2_with (go_at_call 7; ((with_reducible refine (awake_c _).mono ?_); rintro e w' ⟨rfl, hw⟩))
    go_ret
    exact ⟨rfl, hw⟩
  · have c1 := hid (fun W => readRun_c s W (by omega))
    have c2 := hid (fun W => rreadRun_c s W (by omega))
    by_cases h0 : (readR s.data.toList).2.2 = 0
    · have hb := readR_back s.data.toList h0
      generalize readR s.data.toList = r at c1 c2 h0 hb
      obtain ⟨l, n, c⟩ := r
      obtain rfl : c = 0 := h0
      dsimp only at hb
      obtain ⟨hb1, hb2, hb3⟩ := hb
      have hb2 : n ≤ s.size := by simpa using hb2
      have e := extract_eq hb3
      have n1 := fun v W hv => run_ok v l W hv hb1
      rw [e] at n1
      have N1 := hid n1
      have N2 := hid (fun v u W hv hu => same_c v u l W hv hu)
      clear n1 e hb3 hb1
      go_enter Try.func6, Try.ntmps6
      go_wp2_with (first
        | (go_at_call 7; ((with_reducible refine (awake_c _).mono ?_); rintro e w1 ⟨rfl, hw1⟩))
        | (go_at_call 18; ((with_reducible refine (c1.out _).mono ?_); rintro e w2 ⟨v2, rfl, hv2, hw2⟩))
        | (go_at_call 21; ((with_reducible refine (c2.out _).mono ?_); rintro e w3 ⟨v3, rfl, hv3, hw3⟩))
        | (go_at_call 20; ((with_reducible refine (N2.out _ _ _ (hv2.below hw3) hv3).mono ?_); rintro e w' ⟨rfl, q, rfl⟩))
        | (go_at_call 15; ((with_reducible refine (N1.out _ _ ((hv2.below hw3).below (below_draws _ q))).mono ?_); rintro e w4 ⟨rfl, hw4⟩)))
      go_ret
      exact ⟨rfl, btrans (btrans (btrans (btrans hw1 hw2) hw3) (below_draws _ q)) hw4⟩
    · have hb := readR_or s.data.toList
      generalize readR s.data.toList = r at c1 c2 h0 hb
      obtain ⟨l, n, c⟩ := r
      dsimp only at h0 hb
      have hc : c ≤ 5 := by omega
      have hc' : ((c : Int) != 0) = true := by simp; omega
      have N2 := hid (fun v u W hv hu => same_c v u l W hv hu)
      clear h0 hb
      go_enter Try.func6, Try.ntmps6
      go_wp2_with (first
        | (go_at_call 7; ((with_reducible refine (awake_c _).mono ?_); rintro e w1 ⟨rfl, hw1⟩))
        | (go_at_call 18; ((with_reducible refine (c1.out _).mono ?_); rintro e w2 ⟨v2, rfl, hv2, hw2⟩))
        | (go_at_call 21; ((with_reducible refine (c2.out _).mono ?_); rintro e w3 ⟨v3, rfl, hv3, hw3⟩))
        | (go_at_call 20; ((with_reducible refine (N2.out _ _ _ (hv2.below hw3) hv3).mono ?_); rintro e w' ⟨rfl, q, rfl⟩)))
      go_ret
      exact ⟨rfl, btrans (btrans (btrans hw1 hw2) hw3) (below_draws _ q)⟩
end Go.Proofs.Ytlfggoikagampaa.Pk
