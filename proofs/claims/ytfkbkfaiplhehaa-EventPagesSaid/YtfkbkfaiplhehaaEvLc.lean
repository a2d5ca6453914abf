/- EventPages, walked (layer 11, event). -/
import Derived.Test.YtfkbkfaiplhehaaEvAw
import Derived.Test.YtfkbkfaiplhehaaEvRa
namespace Go.Proofs.Ytfkbkfaiplhehaa.Ev
open Go.RowKit Rg
set_option linter.unusedVariables false

/-- the document's list lies apart from the page. -/
def Apart (W : World) (b : Nat) (ao : Option Addr) (v : Value) : Prop := ∀ k, v.ownBlock = some k → k < W.heap.size ∧ k ≠ b ∧ ∀ a, ao = some a → a.block ≠ k
theorem Apart.next {W W2 W3 W4 : World} {b : Nat} {ao ao' : Option Addr} {v v' : Value} (h : Apart W b ao v) (hb : b < W.heap.size) (hn : Near ao ao' W.heap.size) (hf : ∀ a, ao' = some a → a.block < W2.heap.size) (h2 : W.heap.size ≤ W2.heap.size) (h3 : W2.heap.size ≤ W3.heap.size) (h4 : W3.heap.size ≤ W4.heap.size) (hv : Frv W3 W4 v v') : Apart W4 b ao' v' := by
  intro k hk
  rcases hv with rfl | hv
  · obtain ⟨k1, k2, k3⟩ := h k hk
    refine ⟨by omega, k2, fun a ha => ?_⟩
    rcases hn a ha with ⟨a0, h5, h6⟩ | h5
    · have := k3 a0 h5
      omega
    · omega
  · obtain ⟨k1, k2⟩ := hv k hk
    refine ⟨k2, by omega, fun a ha => ?_⟩
    have := hf a ha
    omega

set_option maxRecDepth 100000 in
set_option maxHeartbeats 4000000 in
theorem pages_w (fr : Int) (v : Value) (l : List Ev) (w : World) (h : Evs w v l) : Calls Try.prog 6 #[.int .i64 fr, v] w fun e w' => e = .returned (.bool true) ∧ Below w.heap.size w w' := by
  have HV := hid h
  obtain ⟨ao0, L, cap0, rfl, hL, hc, hm, ht⟩ := h
  have HL := hid hL
  have HT := hid ht
  have HW := hid (awake_c w)
  clear hL ht
  by_cases hin : inB fr 0 1073741824 = true
  case neg =>
    have hin2 : inB fr 0 1073741824 = false := by simpa using hin
    have HN := hid (fun W => open_no fr W hin2)
    unfold inB at hin2
    simp only [Bool.and_eq_false_iff, decide_eq_false_iff_not] at hin2
    by_cases h0 : fr < 0
    · have d1 : decide (fr < 0) = true := by simpa using h0
      clear hin hin2
      go_enter Try.func6, Try.ntmps6
      go_wp2_with (first
        | (go_at_call 9; ((with_reducible refine HW.out.mono ?_); rintro e w1 ⟨rfl, g1⟩))
        | (go_at_call 24; ((with_reducible refine (HN.out _).mono ?_); rintro e w2 ⟨rfl, rfl⟩)))
      go_ret
      exact ⟨rfl, g1⟩
    · have d1 : decide (fr < 0) = false := by simpa using h0
      have d2 : (1073741824 : Int) < fr := by omega
      have d3 : decide ((1073741824 : Int) < fr) = true := by simpa using d2
      clear hin hin2
      go_enter Try.func6, Try.ntmps6
      go_wp2_with (first
        | (go_at_call 9; ((with_reducible refine HW.out.mono ?_); rintro e w1 ⟨rfl, g1⟩))
        | (go_at_call 24; ((with_reducible refine (HN.out _).mono ?_); rintro e w2 ⟨rfl, rfl⟩)))
      go_ret
      exact ⟨rfl, g1⟩
  have HOp := hid (fun (W : World) => open_c fr W.heap.size W (Nat.le_refl _) hin)
  have hin2 := hin
  unfold inB at hin2
  simp only [Bool.and_eq_true, decide_eq_true_eq] at hin2
  have d0 : ¬ fr < 0 := by omega
  have d1 : decide (fr < 0) = false := by simpa using d0
  have d2 : ¬ (1073741824 : Int) < fr := by omega
  have d3 : decide ((1073741824 : Int) < fr) = false := by simpa using d2
  clear hin hin2
  go_enter Try.func6, Try.ntmps6
  go_upto_region 7 with (first
    | (go_at_call 9; ((with_reducible refine HW.out.mono ?_); rintro e w1 ⟨rfl, g1⟩; have HG1 := hid g1; clear g1))
    | (go_at_call 24; ((with_reducible refine (HOp.out _).mono ?_); rintro e w2 ⟨rfl, hP, g2⟩; have HP := hid hP; have HG2 := hid (bt HG1.out g2); clear hP g2)))
  have hs1 : w.heap.size ≤ w1.heap.size := HG1.out.size
  have HP2 := hid (HP.out.alloc (.cells #[] 31))
  have HG3 := hid (bal HG2.out (.cells #[] 31))
  have HV0 : Hid (Evs (w2.alloc (.cells #[] 31)) (.slice (some ⟨w2.heap.size, 0, none⟩) 0 0) []) := hid ⟨_, 0, 0, rfl, rfl, Nat.le_refl _, by decide, fun h => by simp at h⟩
  have hbl := HP.out.lt
  have HA0 : Hid (Apart (w2.alloc (.cells #[] 31)) w1.heap.size none (.slice (some ⟨w2.heap.size, 0, none⟩) 0 0)) := hid (fun k hk => by
    have e : w2.heap.size = k := by simpa [Value.ownBlock] using hk
    refine ⟨by simp; omega, by omega, fun a ha => by cases ha⟩)
  generalize w2.alloc (.cells #[] 31) = w3 at HP2 HG3 HV0 HA0 ⊢
  generalize (Value.slice (some ⟨w2.heap.size, 0, none⟩) 0 0) = v0 at HV0 HA0 ⊢
  clear d0 d1 d2 d3 hbl
  go_wp2_with fail
  go_loopw [7, 8] (fun mv i wr => ∃ (k : Nat) (v : Value) (l' : List Ev) (ao : Option Addr) (cap : Nat), k ≤ L ∧ k ≤ 100 ∧ i = .int .i64 k ∧ v = mv ∧ Pg wr w1.heap.size w1.heap.size fr ao cap l' ∧ pageI fr l' ∧ Evs wr v l' ∧ Apart wr w1.heap.size ao v ∧ Below w.heap.size w wr) (fun _ i _ => L - (intOf i).toNat)
  case atStart => exact ⟨0, _, [], none, 0, Nat.zero_le _, by decide, rfl, rfl, HP2.out, page_nil fr, HV0.out, HA0.out, HG3.out⟩
  case round =>
    obtain ⟨k, v, l', ao, cap, hk, hk100, rfl, rfl, hP, hI, hv, hA, hB⟩ := hrel
    have HP := hid hP
    have HI := hid hI
    have HVm := hid hv
    have HA := hid hA
    have HG := hid hB
    have hnw : w1.heap.size ≤ wr.heap.size := Nat.le_of_lt hP.lt
    by_cases hlt : k < L
    · by_cases hk1 : k < 100
      · obtain ⟨x, hx⟩ := get_lt HL.out hlt
        obtain ⟨bx, o, rfl, hb, c0, c1, c2, c3, c4, c5, c6, c7, c8⟩ := (HT.out.below hB).ev hx
        have HX := hid hx
        have hk2 : (k : Int) < (L : Int) := by omega
        have hk3 : (k : Int) < 100 := by omega
        have hk0 : (0 : Int) ≤ (k : Int) := by omega
        have HI2 := hid (add_inv hI x)
        have HC1 := hid (add_c x wr hP hnw hI.2.1 hI.2.2.1)
        have HC2 := hid (fun W (g : Evs W v l') => radd_c v l' fr x W g hI.2.2.1)
        generalize addR fr l' x = R at HI2 HC1 HC2
        obtain ⟨R1, q, R3⟩ := R
        dsimp only at HI2 HC1 HC2
        have hgK := guardK
        have hne := neqK q q
        rw [decide_eq_true rfl] at hne
        clear hx hP hI hv hA hB
        go_upto_region 11 with (go_at_call 25; (refine HC1.out.mono ?_); rintro e w4 ⟨rfl, ao4, cap4, hP4, hn4, hk4⟩; have HP4 := hid hP4; have HN4 := hid hn4; have HK4 := hid hk4; clear hP4 hn4 hk4)
        have HG4 := hid (HG.out.trans ((HK4.out.below hnw HP.out.footGe).mono HG1.out.size))
        have HV4 := hid (evs_keeps HVm.out HK4.out (fun k hk => ⟨(HA.out k hk).2.1, (HA.out k hk).2.2⟩))
        have HQ := hid (At.new w4 #[.int .i64 q.f, .int .i64 q.e, .int .i64 q.k, .int .i64 q.o] 24)
        have HP5 := hid (HP4.out.alloc (.cells #[.int .i64 q.f, .int .i64 q.e, .int .i64 q.k, .int .i64 q.o] 24))
        have HV5 := hid (HV4.out.below (bal (br w4) (.cells #[.int .i64 q.f, .int .i64 q.e, .int .i64 q.k, .int .i64 q.o] 24)))
        have HG5 := hid (bal HG4.out (.cells #[.int .i64 q.f, .int .i64 q.e, .int .i64 q.k, .int .i64 q.o] 24))
        have hs5 : w4.heap.size ≤ (w4.alloc (.cells #[.int .i64 q.f, .int .i64 q.e, .int .i64 q.k, .int .i64 q.o] 24)).heap.size := by simp
        have hfl := hid HP4.out.footLt
        obtain ⟨Y, hY⟩ : ∃ Y, Hid (w4.heap.size = Y) := ⟨_, hid rfl⟩
        rw [hY.out] at HQ ⊢
        generalize w4.alloc (.cells #[.int .i64 q.f, .int .i64 q.e, .int .i64 q.k, .int .i64 q.o] 24) = w5 at HQ HP5 HV5 HG5 hs5 ⊢
        clear c0 c1 c2 c3 c4 c5 c6 c7 c8
        obtain ⟨_, c0, c1, c2, c3, c4, c5, c6, c7, c8⟩ := (HT.out.below HG5.out).ev2 HX.out
        go_upto_region 13 with (go_at_call 26; (refine (HC2.out _ HV5.out).mono ?_); rintro e w6 ⟨v6, rfl, hv6, g6, hf6⟩; have HV6 := hid hv6; have HG6 := hid g6; have HF6 := hid hf6; clear hv6 g6 hf6)
        have hQ6 := (HQ.out.below HG6.out).more (.cells #[.int .i64 q.f, .int .i64 q.e, .int .i64 q.k, .int .i64 q.o] 24)
        obtain ⟨q0, q1, q2, q3⟩ := hQ6.four
        have hT6 := At.new w6 #[.int .i64 q.f, .int .i64 q.e, .int .i64 q.k, .int .i64 q.o] 24
        obtain ⟨t0, t1, t2, t3⟩ := hT6.four
        clear c0 c1 c2 c3 c4 c5 c6 c7 c8 hQ6 hT6
        go_wp2_with fail
        have hb1 := HP.out.lt
        go_roundw
        case rel =>
          refine ⟨k + 1, v6, R1, ao4, cap4, by omega, by omega, by go_num, rfl, (HP5.out.old HG6.out).alloc _, HI2.out, HV6.out.below (bal (br _) _), ?_, bal (bt HG5.out HG6.out) _⟩
          have := HA.out.next (W2 := w4) (W3 := w5) (W4 := w6) hb1 HN4.out (fun a ha => hfl.out a.block (.inr ⟨a, ha, rfl⟩)) HK4.out.size hs5 HG6.out.size HF6.out
          exact fun k hk => ⟨Nat.lt_of_lt_of_le (this k hk).1 (by simp), (this k hk).2⟩
        case measure => simp [intOf]; omega
      · have hd1 : (k : Int) < (L : Int) := by omega
        have hd2 : decide ((k : Int) < (L : Int)) = true := by simpa using hd1
        have hd3 : ¬ (k : Int) < 100 := by omega
        have hd4 : decide ((k : Int) < 100) = false := by simpa using hd3
        have hpo := page_ord hI
        have hl64 : l'.length ≤ 4096 := by have := hI.2.2.1; omega
        clear hP hI hv hA hB
        have HO := hid (fun W u (g : Evs W u l') => ordered_c u l' W g)
        rw [hpo] at HO
        clear hpo
        go_wp2_with (first
          | (go_at_call 27; (refine (list_c wr HP.out hl64).mono ?_); rintro e w4 ⟨v4, rfl, hv4, g4⟩; have HV4 := hid hv4; have HG4 := hid g4; clear hv4 g4)
          | (go_at_call 15; (refine (rsame_c v4 v l' l' _ HV4.out (HVm.out.below HG4.out)).mono ?_); rintro e w5 ⟨rfl, g5⟩; rw [decide_eq_true rfl]; have HG5 := hid (bt HG4.out g5.below); clear g5)
          | (go_at_call 27; (refine (list_c w5 (HP.out.old HG5.out) hl64).mono ?_); rintro e w6 ⟨v6, rfl, hv6, g6⟩; have HV6 := hid hv6; have HG6 := hid (bt HG5.out g6); clear hv6 g6)
          | (go_at_call 16; (refine (HO.out _ _ HV6.out).mono ?_); rintro e w7 ⟨rfl, g7⟩; have HG7 := hid (bt HG6.out g7); clear g7))
        go_ret
        exact ⟨rfl, bt HG.out HG7.out⟩
    · have hd1 : ¬ (k : Int) < (L : Int) := by omega
      have hd2 : decide ((k : Int) < (L : Int)) = false := by simpa using hd1
      have hpo := page_ord hI
      have hl64 : l'.length ≤ 4096 := by have := hI.2.2.1; omega
      clear hP hI hv hA hB
      have HO := hid (fun W u (g : Evs W u l') => ordered_c u l' W g)
      rw [hpo] at HO
      clear hpo
      go_wp2_with (first
        | (go_at_call 27; (refine (list_c wr HP.out hl64).mono ?_); rintro e w4 ⟨v4, rfl, hv4, g4⟩; have HV4 := hid hv4; have HG4 := hid g4; clear hv4 g4)
        | (go_at_call 15; (refine (rsame_c v4 v l' l' _ HV4.out (HVm.out.below HG4.out)).mono ?_); rintro e w5 ⟨rfl, g5⟩; rw [decide_eq_true rfl]; have HG5 := hid (bt HG4.out g5.below); clear g5)
        | (go_at_call 27; (refine (list_c w5 (HP.out.old HG5.out) hl64).mono ?_); rintro e w6 ⟨v6, rfl, hv6, g6⟩; have HV6 := hid hv6; have HG6 := hid (bt HG5.out g6); clear hv6 g6)
        | (go_at_call 16; (refine (HO.out _ _ HV6.out).mono ?_); rintro e w7 ⟨rfl, g7⟩; have HG7 := hid (bt HG6.out g7); clear g7))
      go_ret
      exact ⟨rfl, bt HG.out HG7.out⟩

end Go.Proofs.Ytfkbkfaiplhehaa.Ev
