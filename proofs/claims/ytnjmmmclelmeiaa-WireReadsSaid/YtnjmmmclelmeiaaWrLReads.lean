/- The statement WireReads of layer 7 (wire), as a walk: the law, called with any bytes, returns true and leaves the old memory as it was. -/
import Derived.Test.YtnjmmmclelmeiaaWrLSame
namespace Go.Proofs.Ytnjmmmclelmeiaa.Wr
open Go.RowKit Go.Proofs.Ytnjmmmclelmeiaa.Fx Go.Proofs.Ytnjmmmclelmeiaa.Pk

/-- bytes that tell a datagram are its own. -/
theorem tell_bytes {S : ByteArray} {m : Dg} {c : Int} (h : TellD S.data.toList m c) : (c = 0 ∧ RightD m ∧ S = Sm.sealS ⟨(msgL m).toArray⟩) ∨ ((c == 0) = false ∧ m = zeroD) := by
  rcases h with ⟨rfl, rfl, _⟩ | ⟨rfl, rfl, _⟩ | ⟨rfl, rfl, _⟩ | ⟨rfl, h1, h2, h3⟩
  · exact .inr ⟨rfl, rfl⟩
  · exact .inr ⟨rfl, rfl⟩
  · exact .inr ⟨rfl, rfl⟩
  · refine .inl ⟨rfl, h3.1, ?_⟩
    apply ByteArray.ext
    apply Array.ext'
    rw [Sm.seal_list]
    show _ = msgL m ++ Sm.fourL (Sm.ofI (msgL m))
    rw [h3.2.2, h2, List.take_append_drop]

set_option maxHeartbeats 4000000 in
theorem reads_w (s : ByteArray) (w : World) (hs : s.size ≤ maxLen) :
    Calls Try.prog 4 #[.string s] w fun e w' => e = .returned (.bool true) ∧ Below w.heap.size w w' := by
  unfold maxLen at hs
  by_cases h4 : 400 < s.size
  · go_enter Try.func4, Try.ntmps4
    go_wp2_with (go_at_call 7; ((with_reducible refine (awake_c _).mono ?_); rintro e y1 ⟨rfl, hy1⟩))
    go_ret
    exact ⟨rfl, hy1⟩
  go_enter Try.func4, Try.ntmps4
  go_wp2_with (go_at_call 7; ((with_reducible refine (awake_c _).mono ?_); rintro e y1 ⟨rfl, hy1⟩))
  go_loopw [0, 3] (fun z i wr => ∃ (S : ByteArray) (n : Nat), z = .string S ∧ i = .int .i64 n ∧ n ≤ 2 ∧ S.size ≤ 400 + 4 * n ∧ Below w.heap.size w wr) (fun _ i _ => 2 - (intOf i).toNat)
  case atStart => exact ⟨s, 0, rfl, rfl, by omega, by omega, hy1⟩
  case round =>
    obtain ⟨S, n, rfl, rfl, hn, hS, hw⟩ := hrel
    by_cases hlt : n < 2
    · have HW := hid hw
      have HU := hid (fun W => unpack_c S W (by omega))
      have HV := hid (fun W => runpack_c S W (by omega))
      clear hw
      go_upto_region 10 with (first
        | (go_at_call 11; ((with_reducible refine (HU.out _).mono ?_); rintro e y2 ⟨m, c, ao, L, cap, rfl, hrd, hin, ht, hb⟩; have HM := hid (And.intro hrd (And.intro hin ht)); have HB2 := hid hb; clear hrd hin ht hb))
        | (go_at_call 14; ((with_reducible refine (HV.out _).mono ?_); rintro e y3 ⟨m', c', ao', L', cap', rfl, hrd, hin, ht, hb⟩; have HM' := hid (And.intro hrd (And.intro hin ht)); have HB3 := hid hb; clear hrd hin ht hb)))
      obtain ⟨hrd, hin, ht⟩ := HM.out
      obtain ⟨hrd', hin', ht'⟩ := HM'.out
      obtain ⟨rfl, rfl⟩ := tell_one ht ht'
      have hb1 := box_below y2 (.cells (cellsD m (.slice ao L cap)) 26)
      have hb2 := box_below y3 (.cells (cellsD m (.slice ao' L' cap')) 26)
      have hX := hid (((Box.new y2 m (.slice ao L cap)).below HB3.out).below hb2)
      obtain ⟨c0, c1, c2, c3, c4, c5, c6⟩ := hX.out.cells
      have HS := hid (rsame_c (.agg (cellsD m (.slice ao L cap))) (.agg (cellsD m (.slice ao' L' cap'))) m m (y3.alloc (.cells (cellsD m (.slice ao' L' cap')) 26)) ⟨ao, L, cap, rfl, ((hrd.below hb1).below HB3.out).below hb2, hin⟩ ⟨ao', L', cap', rfl, hrd'.below hb2, hin⟩)
      rw [same_yes] at HS
      have HB := hid (bt (bt (bt (bt HW.out HB2.out) hb1) HB3.out) hb2)
      have HP := hid (fun W (hb : Below (y3.alloc (.cells (cellsD m (.slice ao' L' cap')) 26)).heap.size (y3.alloc (.cells (cellsD m (.slice ao' L' cap')) 26)) W) => pack_a (.agg (cellsD m (.slice ao L cap))) m W ⟨ao, L, cap, rfl, (((hrd.below hb1).below HB3.out).below hb2).below hb, hin⟩)
      have HSZ : Hid (S.size + 4 ≤ maxLen) := by unfold maxLen; show S.size + 4 ≤ _; omega
      have hcs := hid (tell_bytes ht)
      clear hrd hrd' hin hin' ht ht' HM HM' hb1 hb2
      go_upto_region 13 with (first
        | (go_at_call 13; ((with_reducible refine HS.out.mono ?_); rintro e y4 ⟨rfl, hy4⟩; have HY4 := hid hy4; have hX4 := hid (hX.out.below hy4); obtain ⟨d0, d1, d2, d3, d4, d5, d6⟩ := hX4.out.cells; clear hy4))
        | (go_at_call 8; (refine (HP.out _ HY4.out).mono ?_; rintro e y5 ⟨T, t, rfl, HT, hy5⟩; have HB5 := hid (bt (bt HB.out HY4.out) hy5); clear hy5)))
      rcases hcs.out with ⟨rfl, hR, eS⟩ | ⟨hc0, rfl⟩
      · rcases HT.out with ⟨rfl, _, eT⟩ | ⟨_, hnR, _⟩
        · have hne : (T.toList == S.toList) = true := by rw [eT, ← eS]; simp
          clear hcs HT hR eS eT
          go_wp2_with (go_at_call 15; ((with_reducible refine (Sm.rseal_c S _ HSZ.out).mono ?_); rintro e y6 ⟨rfl, hy6⟩))
          go_roundw
          case rel => exact ⟨_, n + 1, rfl, by go_num, by omega, by rw [Sm.seal_size]; omega, bt HB5.out hy6⟩
          case measure => simp [intOf]; omega
        · exact absurd hR hnR
      · clear hcs HT
        go_wp2_with (go_at_call 15; ((with_reducible refine (Sm.rseal_c S _ HSZ.out).mono ?_); rintro e y6 ⟨rfl, hy6⟩))
        go_roundw
        case rel => exact ⟨_, n + 1, rfl, by go_num, by omega, by rw [Sm.seal_size]; omega, bt HB5.out hy6⟩
        case measure => simp [intOf]; omega
    · go_wp2_with fail
      go_ret
      exact ⟨rfl, hw⟩
end Go.Proofs.Ytnjmmmclelmeiaa.Wr
