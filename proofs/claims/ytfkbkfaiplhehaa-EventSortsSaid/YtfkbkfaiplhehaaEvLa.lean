/- EventNil and EventSorts, walked (layer 11, event). -/
import Derived.Test.YtfkbkfaiplhehaaEvAw
import Derived.Test.YtfkbkfaiplhehaaEvRs
import Derived.Test.YtfkbkfaiplhehaaEvRd
namespace Go.Proofs.Ytfkbkfaiplhehaa.Ev
open Go.RowKit
set_option linter.unusedVariables false

theorem zeroK_def : kv zeroK = .agg #[.int .i64 0, .int .i64 0, .int .i64 0, .int .i64 0] := rfl
theorem eqZero (w : World) : (binOp .eql 24 (.agg #[.int .i64 0, .int .i64 0, .int .i64 0, .int .i64 0]) (.agg #[.int .i64 0, .int .i64 0, .int .i64 0, .int .i64 0])).run Try.prog w = .ok (.bool true) w := by
  have := eqK zeroK zeroK w
  rw [decide_eq_true rfl] at this
  exact this

set_option maxRecDepth 100000 in
set_option maxHeartbeats 1000000 in
theorem nil_w (x : Ev) (w : World) : Calls Try.prog 8 #[ev x] w fun e w' => e = .returned (.bool true) ∧ Below w.heap.size w w' := by
  have HW := hid (awake_c (w.alloc (.cells #[.int .i64 x.key.f, .int .i64 x.key.e, .int .i64 x.key.k, .int .i64 x.key.o, .int .i64 x.a, .int .i64 x.g, .int .i64 x.p, .int .i64 x.r, .int .i64 x.l] 31)))
  have HE := hid (At.new w #[.int .i64 x.key.f, .int .i64 x.key.e, .int .i64 x.key.k, .int .i64 x.key.o, .int .i64 x.a, .int .i64 x.g, .int .i64 x.p, .int .i64 x.r, .int .i64 x.l] 31)
  have HG := hid (bal (br w) (.cells #[.int .i64 x.key.f, .int .i64 x.key.e, .int .i64 x.key.k, .int .i64 x.key.o, .int .i64 x.a, .int .i64 x.g, .int .i64 x.p, .int .i64 x.r, .int .i64 x.l] 31))
  have hz := eqZero
  have hgK := guardK
  go_enter Try.func8, Try.ntmps8
  go_wp2_with (first
    | (go_at_call 9; ((with_reducible refine HW.out.mono ?_); rintro e w1 ⟨rfl, g1⟩; have HG1 := hid (bt HG.out g1); obtain ⟨x0, x1, x2, x3, x4, x5, x6, x7, x8⟩ := (HE.out.below g1).nine))
    | (go_at_call 25; (refine (add_nil x _).mono ?_); rintro e w2 ⟨rfl, g2⟩; have HG2 := hid (bal (bt HG1.out g2) (.cells #[.int .i64 0, .int .i64 0, .int .i64 0, .int .i64 0] 24)); obtain ⟨k0, k1, k2, k3⟩ := (At.new w2 #[.int .i64 0, .int .i64 0, .int .i64 0, .int .i64 0] 24).four)
    | (go_at_call 27; (refine (list_nil _).mono ?_); rintro e w3 ⟨rfl, rfl⟩))
  go_ret
  exact ⟨rfl, HG2.out⟩

theorem keepR {w W : World} {b o : Nat} {l : List Ev} {j : Nat} {x : Ev} (h : Row ecs 9 w (some ⟨b, o, none⟩) l) (hx : l[j]? = some x) (g : Below w.heap.size w W) : Below w.heap.size w W ∧
    W.cell? ⟨b, o + j * 9, none⟩ = some (.int .i64 x.key.f) ∧ W.cell? ⟨b, o + j * 9 + 1, none⟩ = some (.int .i64 x.key.e) ∧ W.cell? ⟨b, o + j * 9 + 2, none⟩ = some (.int .i64 x.key.k) ∧ W.cell? ⟨b, o + j * 9 + 3, none⟩ = some (.int .i64 x.key.o) ∧ W.cell? ⟨b, o + j * 9 + 4, none⟩ = some (.int .i64 x.a) ∧ W.cell? ⟨b, o + j * 9 + 5, none⟩ = some (.int .i64 x.g) ∧ W.cell? ⟨b, o + j * 9 + 6, none⟩ = some (.int .i64 x.p) ∧ W.cell? ⟨b, o + j * 9 + 7, none⟩ = some (.int .i64 x.r) ∧ W.cell? ⟨b, o + j * 9 + 8, none⟩ = some (.int .i64 x.l) :=
  ⟨g, ((h.below g).ev2 hx).2⟩

set_option maxRecDepth 100000 in
set_option maxHeartbeats 4000000 in
theorem sorts_w (v : Value) (l : List Ev) (a b : Ky) (w : World) (h : Evs w v l) : Calls Try.prog 3 #[v, kv a, kv b] w fun e w' => e = .returned (.bool true) ∧ Below w.heap.size w w' := by
  have HV := hid h
  obtain ⟨ao, L, cap, rfl, hL, hc, hm, ht⟩ := h
  have HL := hid hL
  have HT := hid ht
  obtain ⟨w0, hw0⟩ : ∃ w0, Hid (w0 = (w.alloc (.cells #[.int .i64 a.f, .int .i64 a.e, .int .i64 a.k, .int .i64 a.o] 24)).alloc (.cells #[.int .i64 b.f, .int .i64 b.e, .int .i64 b.k, .int .i64 b.o] 24)) := ⟨_, hid rfl⟩
  have HA := hid ((At.new w #[.int .i64 a.f, .int .i64 a.e, .int .i64 a.k, .int .i64 a.o] 24).more (.cells #[.int .i64 b.f, .int .i64 b.e, .int .i64 b.k, .int .i64 b.o] 24))
  have HB := hid (At.newAt (w.alloc (.cells #[.int .i64 a.f, .int .i64 a.e, .int .i64 a.k, .int .i64 a.o] 24)) #[.int .i64 b.f, .int .i64 b.e, .int .i64 b.k, .int .i64 b.o] 24 (n := w.heap.size + 1) (by simp))
  have HG0 := hid (bal (bal (br w) (.cells #[.int .i64 a.f, .int .i64 a.e, .int .i64 a.k, .int .i64 a.o] 24)) (.cells #[.int .i64 b.f, .int .i64 b.e, .int .i64 b.k, .int .i64 b.o] 24))
  rw [← hw0.out] at HA HB HG0
  have HW := hid (awake_c w0)
  have HS1 := hid (fun W (g : Below w.heap.size w W) => sort_c _ l W (HV.out.below g))
  have HS2 := hid (fun W (g : Below w.heap.size w W) => rsort_c _ l W (HV.out.below g))
  generalize sortR l = R at HS1 HS2
  obtain ⟨R1, R2⟩ := R
  dsimp only at HS1 HS2
  have HO1 := hid (fun W (g : Below w.heap.size w W) => ordered_c _ l W (HV.out.below g))
  have HO2 := hid (fun W (g : Below w.heap.size w W) => rordered_c _ l W (HV.out.below g))
  generalize ordB l = ob at HO1 HO2
  have hcb := cmpK_bd a b
  have HC1 := hid (fun W => compare_c a b W)
  have HC2 := hid (fun W => rcompare_c a b W)
  have HC3 := hid (fun W => compare_c b a W)
  rw [cmpK_neg a b] at HC3
  generalize cmpK a b = c at HC1 HC2 HC3 hcb
  have hwc : IntKind.i64.wrap (-c) = -c := IntWalk.i64_in _ (by omega)
  clear hL ht
  go_enter Try.func3, Try.ntmps3
  go_upto_region 1 with fail
  rw [← hw0.out]
  by_cases h100 : 100 < L
  · have d1 : decide ((100 : Int) < (L : Int)) = true := by simp; omega
    have d2 : (100 : Int) < (L : Int) := by omega
    go_wp2_with (go_at_call 9; ((with_reducible refine HW.out.mono ?_); rintro e w1 ⟨rfl, g1⟩; have HG1 := hid (bt HG0.out g1)))
    go_ret
    exact ⟨rfl, HG1.out⟩
  have d1 : decide ((100 : Int) < (L : Int)) = false := by simp; omega
  have d2 : ¬ (100 : Int) < (L : Int) := by omega
  go_upto_region 7 with (first
    | (go_at_call 9; ((with_reducible refine HW.out.mono ?_); rintro e w1 ⟨rfl, g1⟩; have HG1 := hid (bt HG0.out g1); have HA1 := hid (HA.out.below g1); have HB1 := hid (HB.out.below g1)))
    | (go_at_call 10; ((with_reducible refine (HS1.out _ HG1.out).mono ?_); rintro e w2 ⟨v2, rfl, hv2, g2⟩; have HG2 := hid (bt HG1.out g2); have HA2 := hid (HA1.out.below g2); have HB2 := hid (HB1.out.below g2); have HV2 := hid hv2; clear hv2))
    | (go_at_call 11; ((with_reducible refine (HS2.out _ HG2.out).mono ?_); rintro e w3 ⟨v3, rfl, hv3, g3⟩; have HG3 := hid (bt HG2.out g3); have HA3 := hid (HA2.out.below g3); have HB3 := hid (HB2.out.below g3); have HV23 := hid (HV2.out.below g3); have HV3 := hid hv3; clear hv3)))
  clear d1 d2 g1 g2 g3
  go_wp2_with fail
  go_loopw [11] (fun i wr => ∃ k : Nat, k ≤ L ∧ i = .int .i64 k ∧ Below w3.heap.size w3 wr) (fun i _ => L - (intOf i).toNat)
  case atStart => exact ⟨0, Nat.zero_le _, rfl, br _⟩
  case round =>
    obtain ⟨k, hk, rfl, hB⟩ := hrel
    have HGr := hid (bt HG3.out hB)
    have HBr := hid hB
    by_cases hlt : k < L
    · obtain ⟨x, hx⟩ := get_lt HL.out hlt
      have hTr := HT.out.below HGr.out
      obtain ⟨bx, o, rfl, hb, c0, c1, c2, c3, c4, c5, c6, c7, c8⟩ := hTr.ev hx
      have HX := hid hx
      have HTr := hid hTr
      have hk1 : (k : Int) < (L : Int) := by omega
      have hk0 : (0 : Int) ≤ (k : Int) := by omega
      clear hx hB hTr
      go_upto_region 10 with fail
      have hS0 := keepR HTr.out HX.out (br wr)
      go_region_held3 (fun W => Below wr.heap.size wr W ∧ W.cell? ⟨bx, o + k * 9, none⟩ = some (.int .i64 x.key.f) ∧ W.cell? ⟨bx, o + k * 9 + 1, none⟩ = some (.int .i64 x.key.e) ∧ W.cell? ⟨bx, o + k * 9 + 2, none⟩ = some (.int .i64 x.key.k) ∧ W.cell? ⟨bx, o + k * 9 + 3, none⟩ = some (.int .i64 x.key.o) ∧ W.cell? ⟨bx, o + k * 9 + 4, none⟩ = some (.int .i64 x.a) ∧ W.cell? ⟨bx, o + k * 9 + 5, none⟩ = some (.int .i64 x.g) ∧ W.cell? ⟨bx, o + k * 9 + 6, none⟩ = some (.int .i64 x.p) ∧ W.cell? ⟨bx, o + k * 9 + 7, none⟩ = some (.int .i64 x.r) ∧ W.cell? ⟨bx, o + k * 9 + 8, none⟩ = some (.int .i64 x.l))
        (first | with_reducible assumption | exact keepR HTr.out HX.out (bdn (br _) _) | exact keepR HTr.out HX.out (bd1 (br _)) | exact keepR HTr.out HX.out (br _))
        (first
        | (go_at_call 12; (with_reducible refine (right_c x _).mono ?_; rintro e y1 ⟨rfl, hyy⟩; have hb1 := bt (show Below wr.heap.size wr _ by first | with_reducible assumption | exact bdn (br _) _ | exact bd1 (br _) | exact br _) hyy.below; have hSS := keepR HTr.out HX.out hb1; clear hyy))
        | (go_at_call 13; (with_reducible refine (rright_c x _).mono ?_; rintro e y2 ⟨rfl, hyy⟩; have hb2 := bt (show Below wr.heap.size wr _ by first | with_reducible assumption | exact bdn (br _) _ | exact bd1 (br _) | exact br _) hyy.below; have hSS := keepR HTr.out HX.out hb2; clear hyy)))
      go_wp2_with fail
      go_roundw
      case rel => exact ⟨k + 1, by omega, by go_num, bt HBr.out hb2⟩
      case measure => simp [intOf]; omega
    · have hd0 : decide ((k : Int) < (L : Int)) = false := by simp; omega
      have HA4 := hid (HA3.out.below HBr.out)
      have HB4 := hid (HB3.out.below HBr.out)
      have HVa := hid (HV23.out.below HBr.out)
      have HVb := hid (HV3.out.below HBr.out)
      obtain ⟨a0, a1, a2, a3⟩ := HA4.out.four
      obtain ⟨b0, b1, b2, b3⟩ := HB4.out.four
      clear hB
      go_wp2_with (first
        | (go_at_call 14; (with_reducible refine (HC1.out _).mono ?_; rintro e y1 ⟨rfl, g5⟩; have HG5 := hid (bt HGr.out g5.below); have HA5 := hid (HA4.out.below g5.below); have HB5 := hid (HB4.out.below g5.below); have HVa5 := hid (HVa.out.below g5.below); have HVb5 := hid (HVb.out.below g5.below)))
        | (go_at_call 15; (with_reducible refine (rsame_c _ _ R1 R1 _ HVa5.out HVb5.out).mono ?_; rintro e y2 ⟨rfl, g6⟩; rw [decide_eq_true rfl]; have HG6 := hid (bt HG5.out g6.below); have HA6 := hid (HA5.out.below g6.below); have HB6 := hid (HB5.out.below g6.below)))
        | (go_at_call 16; (with_reducible refine (HO1.out _ HG6.out).mono ?_; rintro e y3 ⟨rfl, g7⟩; have HG7 := hid (bt HG6.out g7); have HA7 := hid (HA6.out.below g7); have HB7 := hid (HB6.out.below g7)))
        | (go_at_call 17; (with_reducible refine (HO2.out _ HG7.out).mono ?_; rintro e y4 ⟨rfl, g8⟩; have HG8 := hid (bt HG7.out g8.below); have HA8 := hid (HA7.out.below g8.below); have HB8 := hid (HB7.out.below g8.below); obtain ⟨p0, p1, p2, p3⟩ := HA8.out.four; obtain ⟨q0, q1, q2, q3⟩ := HB8.out.four))
        | (go_at_call 18; (with_reducible refine (HC2.out _).mono ?_; rintro e y5 ⟨rfl, g9⟩; have HG9 := hid (bt HG8.out g9.below); have HA9 := hid (HA8.out.below g9.below); have HB9 := hid (HB8.out.below g9.below); obtain ⟨r0, r1, r2, r3⟩ := HA9.out.four; obtain ⟨s0, s1, s2, s3⟩ := HB9.out.four))
        | (go_at_call 14; (with_reducible refine (HC3.out _).mono ?_; rintro e y6 ⟨rfl, g10⟩; have HG10 := hid (bt HG9.out g10.below))))
      go_ret
      exact ⟨rfl, HG10.out⟩

end Go.Proofs.Ytfkbkfaiplhehaa.Ev
