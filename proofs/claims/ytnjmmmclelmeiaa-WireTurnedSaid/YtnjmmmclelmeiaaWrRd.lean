/- What read of layer 7 (wire) returns, kind by kind. -/
import Derived.Test.YtnjmmmclelmeiaaWrRig
namespace Go.Proofs.Ytnjmmmclelmeiaa.Wr
open Go.RowKit Go.Proofs.Ytnjmmmclelmeiaa.Fx Go.Proofs.Ytnjmmmclelmeiaa.Pk

theorem empty_of {T : ByteArray} (h : T.size = 0) : T = ⟨#[]⟩ := by
  apply ByteArray.ext
  exact Array.eq_empty_of_size_eq_zero h
theorem empty_no {T : ByteArray} (h : T.size ≠ 0) : T.data.toList.isEmpty = false := by
  rw [Lib.size_eq] at h
  cases hl : T.data.toList with
  | nil => rw [hl] at h; simp at h
  | cons x t => rfl
theorem ret_ok {v : Value} {a b : Bool} (h : a = b) : Ending.returned (.tuple #[v, .bool a]) = .returned (.tuple #[v, .bool b]) := by rw [h]
theorem list0 : (⟨#[]⟩ : ByteArray).data.toList = [] := rfl

set_option maxRecDepth 100000 in
set_option maxHeartbeats 4000000 in
theorem read_k1 (s : ByteArray) (w : World) (hs : s.size ≤ 1073741824) (h2 : ¬ s.size < 2) (h80 : ((s[0].toNat : Int) != 80) = false) (hk : (s[1].toNat : Int) = 1) :
    Calls Try.prog 30 #[.string s] w fun e w' => ∃ v, e = .returned (.tuple #[v, .bool (okD 1 (s.data.toList.drop 2))]) ∧ Holds w' v (parseD 1 (s.data.toList.drop 2)).1 ∧ Below w.heap.size w w' := by
  have hR0 := hid (Rig.new w ⟨1, 0, 0, 0, [], 0, 0⟩ rfl (s.extract 2 s.size))
  have hx0 : (s.extract 2 s.size).size ≤ 1073741824 := by rw [ByteArray.size_extract]; omega
  have HX0 := hid hx0
  have HTL := hid (tail_list s 2)
  clear hx0
  go_enter Try.func30, Try.ntmps30
  go_wp2_with (first
    | (go_at_call 17; ((with_reducible refine (named_c 1 _).mono ?_); rintro e w' ⟨rfl, rfl⟩; rw [show namedI 1 = 1 by decide]))
    | (go_at_call 18; ((with_reducible refine (have_c _ _ true _ (by decide)).mono ?_); rintro e w' ⟨rfl, rfl⟩))
    | (go_at_call 18; ((with_reducible refine (have_c _ _ false _ (by decide)).mono ?_); rintro e w' ⟨rfl, rfl⟩))
    | (go_at_call 46; (refine (get4_l (w.heap.size + 1 + 1) (s.extract 2 s.size) false _ hR0.out.rd HX0.out).mono ?_; rintro e y1 ⟨x1, T1, b1, rfl, HT1, hr1, ho1⟩; have hR1 := hid (hR0.out.got hr1 ho1); clear hr1 ho1; obtain ⟨c0, c1, c2, c3, c4, c5, c6⟩ := hR1.out.dg.cells; have f0 := hR1.out.dg.frozen; have hP1 := hid (hR1.out.put 1 (.int .u32 (x1 : Int)) ⟨1, x1, 0, 0, [], 0, 0⟩ none 0 0 rfl hR1.out.vr); obtain ⟨d0, d1, d2, d3, d4, d5, d6⟩ := hP1.out.dg.cells; obtain ⟨r0, r1, r2, r3⟩ := hP1.out.rd.cells; obtain ⟨z0, z1, z2, z3, z4, z5, z6⟩ := hP1.out.res.cells; have f1 := hP1.out.res.frozen)))
  have hpd : Hid (parseD 1 (s.data.toList.drop 2) = (⟨1, x1, 0, 0, [], 0, 0⟩, T1.data.toList, b1)) := by
    show _ = _
    obtain ⟨e1x, e1a, e1b, _⟩ := HT1.out
    rw [e1x, e1a, e1b, HTL.out]
    rfl
  have hin : InD ⟨1, x1, 0, 0, [], 0, 0⟩ := by
    have := parse_in 1 (s.data.toList.drop 2) (by omega)
    rw [hpd.out] at this
    exact this
  obtain ⟨hF, hH, hB⟩ := hP1.out.fin hin
  obtain ⟨q0, q1, q2, q3, q4, q5, q6⟩ := hF.cells
  have HQ := hid (And.intro q0 (And.intro q1 (And.intro q2 (And.intro q3 (And.intro q4 (And.intro q5 q6))))))
  have HH := hid hH
  have HB := hid hB
  clear hF hH hB q0 q1 q2 q3 q4 q5 q6 hin
  cases b1
  · by_cases hT : T1.size = 0
    · obtain rfl := empty_of hT
      clear hT
      go_region
      go_wp2_with fail
      refine bodyPost_ret (results_msg rfl _ _ w.heap.size rfl _ _ _ _ _ _ _ HQ.out.1 HQ.out.2.1 HQ.out.2.2.1 HQ.out.2.2.2.1 HQ.out.2.2.2.2.1 HQ.out.2.2.2.2.2.1 HQ.out.2.2.2.2.2.2) rfl ?_
      exact ⟨_, ret_ok (by unfold okD; rw [hpd.out]; rfl), by rw [hpd.out]; exact HH.out, HB.out⟩
    · have hTe := hid (empty_no hT)
      have hTb : (T1.toList == ([] : List UInt8)) = false := by
        rw [ByteArray.toList_eq]
        cases hl : T1.data.toList with
        | nil => rw [hl] at hTe; cases hTe.out
        | cons x t => rfl
      go_region
      go_wp2_with fail
      refine bodyPost_ret (results_msg rfl _ _ w.heap.size rfl _ _ _ _ _ _ _ HQ.out.1 HQ.out.2.1 HQ.out.2.2.1 HQ.out.2.2.2.1 HQ.out.2.2.2.2.1 HQ.out.2.2.2.2.2.1 HQ.out.2.2.2.2.2.2) rfl ?_
      exact ⟨_, ret_ok (by unfold okD; rw [hpd.out, hTe.out]; rfl), by rw [hpd.out]; exact HH.out, HB.out⟩
  · go_region
    go_wp2_with fail
    refine bodyPost_ret (results_msg rfl _ _ w.heap.size rfl _ _ _ _ _ _ _ HQ.out.1 HQ.out.2.1 HQ.out.2.2.1 HQ.out.2.2.2.1 HQ.out.2.2.2.2.1 HQ.out.2.2.2.2.2.1 HQ.out.2.2.2.2.2.2) rfl ?_
    exact ⟨_, ret_ok (by unfold okD; rw [hpd.out]; rfl), by rw [hpd.out]; exact HH.out, HB.out⟩

set_option maxRecDepth 100000 in
set_option maxHeartbeats 4000000 in
theorem read_k2 (s : ByteArray) (w : World) (hs : s.size ≤ 1073741824) (h2 : ¬ s.size < 2) (h80 : ((s[0].toNat : Int) != 80) = false) (hk : (s[1].toNat : Int) = 2) :
    Calls Try.prog 30 #[.string s] w fun e w' => ∃ v, e = .returned (.tuple #[v, .bool (okD 2 (s.data.toList.drop 2))]) ∧ Holds w' v (parseD 2 (s.data.toList.drop 2)).1 ∧ Below w.heap.size w w' := by
  have hR0 := hid (Rig.new w ⟨2, 0, 0, 0, [], 0, 0⟩ rfl (s.extract 2 s.size))
  have hx0 : (s.extract 2 s.size).size ≤ 1073741824 := by rw [ByteArray.size_extract]; omega
  have HX0 := hid hx0
  have HTL := hid (tail_list s 2)
  clear hx0
  go_enter Try.func30, Try.ntmps30
  go_wp2_with (first
    | (go_at_call 17; ((with_reducible refine (named_c 2 _).mono ?_); rintro e w' ⟨rfl, rfl⟩; rw [show namedI 2 = 1 by decide]))
    | (go_at_call 18; ((with_reducible refine (have_c _ _ true _ (by decide)).mono ?_); rintro e w' ⟨rfl, rfl⟩))
    | (go_at_call 18; ((with_reducible refine (have_c _ _ false _ (by decide)).mono ?_); rintro e w' ⟨rfl, rfl⟩))
    | (go_at_call 46; (refine (get4_l (w.heap.size + 1 + 1) (s.extract 2 s.size) false _ hR0.out.rd HX0.out).mono ?_; rintro e y1 ⟨x1, T1, b1, rfl, HT1, hr1, ho1⟩; have hR1 := hid (hR0.out.got hr1 ho1); clear hr1 ho1; obtain ⟨c0, c1, c2, c3, c4, c5, c6⟩ := hR1.out.dg.cells; have f0 := hR1.out.dg.frozen; have hP1 := hid (hR1.out.put 1 (.int .u32 (x1 : Int)) ⟨2, x1, 0, 0, [], 0, 0⟩ none 0 0 rfl hR1.out.vr); obtain ⟨d0, d1, d2, d3, d4, d5, d6⟩ := hP1.out.dg.cells; obtain ⟨r0, r1, r2, r3⟩ := hP1.out.rd.cells; obtain ⟨z0, z1, z2, z3, z4, z5, z6⟩ := hP1.out.res.cells; have f1 := hP1.out.res.frozen)))
  have hpd : Hid (parseD 2 (s.data.toList.drop 2) = (⟨2, x1, 0, 0, [], 0, 0⟩, T1.data.toList, b1)) := by
    show _ = _
    obtain ⟨e1x, e1a, e1b, _⟩ := HT1.out
    rw [e1x, e1a, e1b, HTL.out]
    rfl
  have hin : InD ⟨2, x1, 0, 0, [], 0, 0⟩ := by
    have := parse_in 2 (s.data.toList.drop 2) (by omega)
    rw [hpd.out] at this
    exact this
  obtain ⟨hF, hH, hB⟩ := hP1.out.fin hin
  obtain ⟨q0, q1, q2, q3, q4, q5, q6⟩ := hF.cells
  have HQ := hid (And.intro q0 (And.intro q1 (And.intro q2 (And.intro q3 (And.intro q4 (And.intro q5 q6))))))
  have HH := hid hH
  have HB := hid hB
  clear hF hH hB q0 q1 q2 q3 q4 q5 q6 hin
  cases b1
  · by_cases hT : T1.size = 0
    · obtain rfl := empty_of hT
      clear hT
      go_region
      go_wp2_with fail
      refine bodyPost_ret (results_msg rfl _ _ w.heap.size rfl _ _ _ _ _ _ _ HQ.out.1 HQ.out.2.1 HQ.out.2.2.1 HQ.out.2.2.2.1 HQ.out.2.2.2.2.1 HQ.out.2.2.2.2.2.1 HQ.out.2.2.2.2.2.2) rfl ?_
      exact ⟨_, ret_ok (by unfold okD; rw [hpd.out]; rfl), by rw [hpd.out]; exact HH.out, HB.out⟩
    · have hTe := hid (empty_no hT)
      have hTb : (T1.toList == ([] : List UInt8)) = false := by
        rw [ByteArray.toList_eq]
        cases hl : T1.data.toList with
        | nil => rw [hl] at hTe; cases hTe.out
        | cons x t => rfl
      go_region
      go_wp2_with fail
      refine bodyPost_ret (results_msg rfl _ _ w.heap.size rfl _ _ _ _ _ _ _ HQ.out.1 HQ.out.2.1 HQ.out.2.2.1 HQ.out.2.2.2.1 HQ.out.2.2.2.2.1 HQ.out.2.2.2.2.2.1 HQ.out.2.2.2.2.2.2) rfl ?_
      exact ⟨_, ret_ok (by unfold okD; rw [hpd.out, hTe.out]; rfl), by rw [hpd.out]; exact HH.out, HB.out⟩
  · go_region
    go_wp2_with fail
    refine bodyPost_ret (results_msg rfl _ _ w.heap.size rfl _ _ _ _ _ _ _ HQ.out.1 HQ.out.2.1 HQ.out.2.2.1 HQ.out.2.2.2.1 HQ.out.2.2.2.2.1 HQ.out.2.2.2.2.2.1 HQ.out.2.2.2.2.2.2) rfl ?_
    exact ⟨_, ret_ok (by unfold okD; rw [hpd.out]; rfl), by rw [hpd.out]; exact HH.out, HB.out⟩

set_option maxRecDepth 100000 in
set_option maxHeartbeats 4000000 in
theorem read_k3 (s : ByteArray) (w : World) (hs : s.size ≤ 1073741824) (h2 : ¬ s.size < 2) (h80 : ((s[0].toNat : Int) != 80) = false) (hk : (s[1].toNat : Int) = 3) :
    Calls Try.prog 30 #[.string s] w fun e w' => ∃ v, e = .returned (.tuple #[v, .bool (okD 3 (s.data.toList.drop 2))]) ∧ Holds w' v (parseD 3 (s.data.toList.drop 2)).1 ∧ Below w.heap.size w w' := by
  have hR0 := hid (Rig.new w ⟨3, 0, 0, 0, [], 0, 0⟩ rfl (s.extract 2 s.size))
  have hx0 : (s.extract 2 s.size).size ≤ 1073741824 := by rw [ByteArray.size_extract]; omega
  have HX0 := hid hx0
  have HTL := hid (tail_list s 2)
  clear hx0
  go_enter Try.func30, Try.ntmps30
  go_wp2_with (first
    | (go_at_call 17; ((with_reducible refine (named_c 3 _).mono ?_); rintro e w' ⟨rfl, rfl⟩; rw [show namedI 3 = 14 by decide]))
    | (go_at_call 18; ((with_reducible refine (have_c _ _ true _ (by decide)).mono ?_); rintro e w' ⟨rfl, rfl⟩))
    | (go_at_call 18; ((with_reducible refine (have_c _ _ false _ (by decide)).mono ?_); rintro e w' ⟨rfl, rfl⟩))
    | (go_at_call 48; (refine (inputs_l (w.heap.size + 1 + 1) T2 b2 _ hP2.out.rd HT2.out.2.2.2).mono ?_; rintro e y3 ⟨ao, L, cap, T3, b3, rfl, HT3, hr3, ho3⟩; have hR3 := hid (hP2.out.got hr3 ho3); clear hr3 ho3; obtain ⟨c0, c1, c2, c3, c4, c5, c6⟩ := hR3.out.dg.cells; have f0 := hR3.out.dg.frozen; have hP3 := hid (hR3.out.put 4 (.slice ao L cap) ⟨3, 0, x1, x2, (readR T2.data.toList).1, 0, 0⟩ ao L cap rfl HT3.out.2.2); obtain ⟨d0, d1, d2, d3, d4, d5, d6⟩ := hP3.out.dg.cells; obtain ⟨r0, r1, r2, r3⟩ := hP3.out.rd.cells; obtain ⟨z0, z1, z2, z3, z4, z5, z6⟩ := hP3.out.res.cells; have f1 := hP3.out.res.frozen))
    | (go_at_call 47; (refine (get2_l (w.heap.size + 1 + 1) T1 b1 _ hP1.out.rd HT1.out.2.2.2).mono ?_; rintro e y2 ⟨x2, T2, b2, rfl, HT2, hr2, ho2⟩; have hR2 := hid (hP1.out.got hr2 ho2); clear hr2 ho2; obtain ⟨c0, c1, c2, c3, c4, c5, c6⟩ := hR2.out.dg.cells; have f0 := hR2.out.dg.frozen; have hP2 := hid (hR2.out.put 3 (.int .u16 (x2 : Int)) ⟨3, 0, x1, x2, [], 0, 0⟩ none 0 0 rfl hR2.out.vr)))
    | (go_at_call 47; (refine (get2_l (w.heap.size + 1 + 1) (s.extract 2 s.size) false _ hR0.out.rd HX0.out).mono ?_; rintro e y1 ⟨x1, T1, b1, rfl, HT1, hr1, ho1⟩; have hR1 := hid (hR0.out.got hr1 ho1); clear hr1 ho1; obtain ⟨c0, c1, c2, c3, c4, c5, c6⟩ := hR1.out.dg.cells; have f0 := hR1.out.dg.frozen; have hP1 := hid (hR1.out.put 2 (.int .u16 (x1 : Int)) ⟨3, 0, x1, 0, [], 0, 0⟩ none 0 0 rfl hR1.out.vr))))
  have hpd : Hid (parseD 3 (s.data.toList.drop 2) = (⟨3, 0, x1, x2, (readR T2.data.toList).1, 0, 0⟩, T3.data.toList, b3)) := by
    show _ = _
    obtain ⟨e1x, e1a, e1b, _⟩ := HT1.out
    obtain ⟨e2x, e2a, e2b, _⟩ := HT2.out
    obtain ⟨e3a, e3b, _⟩ := HT3.out
    rw [e3a, e3b, e2x, e2a, e2b, e1x, e1a, e1b, HTL.out]
    rfl
  have hin : InD ⟨3, 0, x1, x2, (readR T2.data.toList).1, 0, 0⟩ := by
    have := parse_in 3 (s.data.toList.drop 2) (by omega)
    rw [hpd.out] at this
    exact this
  obtain ⟨hF, hH, hB⟩ := hP3.out.fin hin
  obtain ⟨q0, q1, q2, q3, q4, q5, q6⟩ := hF.cells
  have HQ := hid (And.intro q0 (And.intro q1 (And.intro q2 (And.intro q3 (And.intro q4 (And.intro q5 q6))))))
  have HH := hid hH
  have HB := hid hB
  clear hF hH hB q0 q1 q2 q3 q4 q5 q6 hin
  cases b3
  · by_cases hT : T3.size = 0
    · obtain rfl := empty_of hT
      clear hT
      go_region
      go_wp2_with fail
      refine bodyPost_ret (results_msg rfl _ _ w.heap.size rfl _ _ _ _ _ _ _ HQ.out.1 HQ.out.2.1 HQ.out.2.2.1 HQ.out.2.2.2.1 HQ.out.2.2.2.2.1 HQ.out.2.2.2.2.2.1 HQ.out.2.2.2.2.2.2) rfl ?_
      exact ⟨_, ret_ok (by unfold okD; rw [hpd.out]; rfl), by rw [hpd.out]; exact HH.out, HB.out⟩
    · have hTe := hid (empty_no hT)
      have hTb : (T3.toList == ([] : List UInt8)) = false := by
        rw [ByteArray.toList_eq]
        cases hl : T3.data.toList with
        | nil => rw [hl] at hTe; cases hTe.out
        | cons x t => rfl
      go_region
      go_wp2_with fail
      refine bodyPost_ret (results_msg rfl _ _ w.heap.size rfl _ _ _ _ _ _ _ HQ.out.1 HQ.out.2.1 HQ.out.2.2.1 HQ.out.2.2.2.1 HQ.out.2.2.2.2.1 HQ.out.2.2.2.2.2.1 HQ.out.2.2.2.2.2.2) rfl ?_
      exact ⟨_, ret_ok (by unfold okD; rw [hpd.out, hTe.out]; rfl), by rw [hpd.out]; exact HH.out, HB.out⟩
  · go_region
    go_wp2_with fail
    refine bodyPost_ret (results_msg rfl _ _ w.heap.size rfl _ _ _ _ _ _ _ HQ.out.1 HQ.out.2.1 HQ.out.2.2.1 HQ.out.2.2.2.1 HQ.out.2.2.2.2.1 HQ.out.2.2.2.2.2.1 HQ.out.2.2.2.2.2.2) rfl ?_
    exact ⟨_, ret_ok (by unfold okD; rw [hpd.out]; rfl), by rw [hpd.out]; exact HH.out, HB.out⟩

set_option maxRecDepth 100000 in
set_option maxHeartbeats 4000000 in
theorem read_k4 (s : ByteArray) (w : World) (hs : s.size ≤ 1073741824) (h2 : ¬ s.size < 2) (h80 : ((s[0].toNat : Int) != 80) = false) (hk : (s[1].toNat : Int) = 4) :
    Calls Try.prog 30 #[.string s] w fun e w' => ∃ v, e = .returned (.tuple #[v, .bool (okD 4 (s.data.toList.drop 2))]) ∧ Holds w' v (parseD 4 (s.data.toList.drop 2)).1 ∧ Below w.heap.size w w' := by
  have hR0 := hid (Rig.new w ⟨4, 0, 0, 0, [], 0, 0⟩ rfl (s.extract 2 s.size))
  have hx0 : (s.extract 2 s.size).size ≤ 1073741824 := by rw [ByteArray.size_extract]; omega
  have HX0 := hid hx0
  have HTL := hid (tail_list s 2)
  clear hx0
  go_enter Try.func30, Try.ntmps30
  go_wp2_with (first
    | (go_at_call 17; ((with_reducible refine (named_c 4 _).mono ?_); rintro e w' ⟨rfl, rfl⟩; rw [show namedI 4 = 18 by decide]))
    | (go_at_call 18; ((with_reducible refine (have_c _ _ true _ (by decide)).mono ?_); rintro e w' ⟨rfl, rfl⟩))
    | (go_at_call 18; ((with_reducible refine (have_c _ _ false _ (by decide)).mono ?_); rintro e w' ⟨rfl, rfl⟩))
    | (go_at_call 46; (refine (get4_l (w.heap.size + 1 + 1) T1 b1 _ hP1.out.rd HT1.out.2.2.2).mono ?_; rintro e y2 ⟨x2, T2, b2, rfl, HT2, hr2, ho2⟩; have hR2 := hid (hP1.out.got hr2 ho2); clear hr2 ho2; obtain ⟨c0, c1, c2, c3, c4, c5, c6⟩ := hR2.out.dg.cells; have f0 := hR2.out.dg.frozen; have hP2 := hid (hR2.out.put 5 (.int .u32 (x2 : Int)) ⟨4, 0, x1, 0, [], x2, 0⟩ none 0 0 rfl hR2.out.vr); obtain ⟨d0, d1, d2, d3, d4, d5, d6⟩ := hP2.out.dg.cells; obtain ⟨r0, r1, r2, r3⟩ := hP2.out.rd.cells; obtain ⟨z0, z1, z2, z3, z4, z5, z6⟩ := hP2.out.res.cells; have f1 := hP2.out.res.frozen))
    | (go_at_call 47; (refine (get2_l (w.heap.size + 1 + 1) (s.extract 2 s.size) false _ hR0.out.rd HX0.out).mono ?_; rintro e y1 ⟨x1, T1, b1, rfl, HT1, hr1, ho1⟩; have hR1 := hid (hR0.out.got hr1 ho1); clear hr1 ho1; obtain ⟨c0, c1, c2, c3, c4, c5, c6⟩ := hR1.out.dg.cells; have f0 := hR1.out.dg.frozen; have hP1 := hid (hR1.out.put 2 (.int .u16 (x1 : Int)) ⟨4, 0, x1, 0, [], 0, 0⟩ none 0 0 rfl hR1.out.vr))))
  have hpd : Hid (parseD 4 (s.data.toList.drop 2) = (⟨4, 0, x1, 0, [], x2, 0⟩, T2.data.toList, b2)) := by
    show _ = _
    obtain ⟨e1x, e1a, e1b, _⟩ := HT1.out
    obtain ⟨e2x, e2a, e2b, _⟩ := HT2.out
    rw [e2x, e2a, e2b, e1x, e1a, e1b, HTL.out]
    rfl
  have hin : InD ⟨4, 0, x1, 0, [], x2, 0⟩ := by
    have := parse_in 4 (s.data.toList.drop 2) (by omega)
    rw [hpd.out] at this
    exact this
  obtain ⟨hF, hH, hB⟩ := hP2.out.fin hin
  obtain ⟨q0, q1, q2, q3, q4, q5, q6⟩ := hF.cells
  have HQ := hid (And.intro q0 (And.intro q1 (And.intro q2 (And.intro q3 (And.intro q4 (And.intro q5 q6))))))
  have HH := hid hH
  have HB := hid hB
  clear hF hH hB q0 q1 q2 q3 q4 q5 q6 hin
  cases b2
  · by_cases hT : T2.size = 0
    · obtain rfl := empty_of hT
      clear hT
      go_region
      go_wp2_with fail
      refine bodyPost_ret (results_msg rfl _ _ w.heap.size rfl _ _ _ _ _ _ _ HQ.out.1 HQ.out.2.1 HQ.out.2.2.1 HQ.out.2.2.2.1 HQ.out.2.2.2.2.1 HQ.out.2.2.2.2.2.1 HQ.out.2.2.2.2.2.2) rfl ?_
      exact ⟨_, ret_ok (by unfold okD; rw [hpd.out]; rfl), by rw [hpd.out]; exact HH.out, HB.out⟩
    · have hTe := hid (empty_no hT)
      have hTb : (T2.toList == ([] : List UInt8)) = false := by
        rw [ByteArray.toList_eq]
        cases hl : T2.data.toList with
        | nil => rw [hl] at hTe; cases hTe.out
        | cons x t => rfl
      go_region
      go_wp2_with fail
      refine bodyPost_ret (results_msg rfl _ _ w.heap.size rfl _ _ _ _ _ _ _ HQ.out.1 HQ.out.2.1 HQ.out.2.2.1 HQ.out.2.2.2.1 HQ.out.2.2.2.2.1 HQ.out.2.2.2.2.2.1 HQ.out.2.2.2.2.2.2) rfl ?_
      exact ⟨_, ret_ok (by unfold okD; rw [hpd.out, hTe.out]; rfl), by rw [hpd.out]; exact HH.out, HB.out⟩
  · go_region
    go_wp2_with fail
    refine bodyPost_ret (results_msg rfl _ _ w.heap.size rfl _ _ _ _ _ _ _ HQ.out.1 HQ.out.2.1 HQ.out.2.2.1 HQ.out.2.2.2.1 HQ.out.2.2.2.2.1 HQ.out.2.2.2.2.2.1 HQ.out.2.2.2.2.2.2) rfl ?_
    exact ⟨_, ret_ok (by unfold okD; rw [hpd.out]; rfl), by rw [hpd.out]; exact HH.out, HB.out⟩

set_option maxRecDepth 100000 in
set_option maxHeartbeats 4000000 in
theorem read_k5 (s : ByteArray) (w : World) (hs : s.size ≤ 1073741824) (h2 : ¬ s.size < 2) (h80 : ((s[0].toNat : Int) != 80) = false) (hk : (s[1].toNat : Int) = 5) :
    Calls Try.prog 30 #[.string s] w fun e w' => ∃ v, e = .returned (.tuple #[v, .bool (okD 5 (s.data.toList.drop 2))]) ∧ Holds w' v (parseD 5 (s.data.toList.drop 2)).1 ∧ Below w.heap.size w w' := by
  have hR0 := hid (Rig.new w ⟨5, 0, 0, 0, [], 0, 0⟩ rfl (s.extract 2 s.size))
  have hx0 : (s.extract 2 s.size).size ≤ 1073741824 := by rw [ByteArray.size_extract]; omega
  have HX0 := hid hx0
  have HTL := hid (tail_list s 2)
  clear hx0
  go_enter Try.func30, Try.ntmps30
  go_wp2_with (first
    | (go_at_call 17; ((with_reducible refine (named_c 5 _).mono ?_); rintro e w' ⟨rfl, rfl⟩; rw [show namedI 5 = 4 by decide]))
    | (go_at_call 18; ((with_reducible refine (have_c _ _ true _ (by decide)).mono ?_); rintro e w' ⟨rfl, rfl⟩))
    | (go_at_call 18; ((with_reducible refine (have_c _ _ false _ (by decide)).mono ?_); rintro e w' ⟨rfl, rfl⟩))
    | (go_at_call 47; (refine (get2_l (w.heap.size + 1 + 1) (s.extract 2 s.size) false _ hR0.out.rd HX0.out).mono ?_; rintro e y1 ⟨x1, T1, b1, rfl, HT1, hr1, ho1⟩; have hR1 := hid (hR0.out.got hr1 ho1); clear hr1 ho1; obtain ⟨c0, c1, c2, c3, c4, c5, c6⟩ := hR1.out.dg.cells; have f0 := hR1.out.dg.frozen; have hP1 := hid (hR1.out.put 3 (.int .u16 (x1 : Int)) ⟨5, 0, 0, x1, [], 0, 0⟩ none 0 0 rfl hR1.out.vr); obtain ⟨d0, d1, d2, d3, d4, d5, d6⟩ := hP1.out.dg.cells; obtain ⟨r0, r1, r2, r3⟩ := hP1.out.rd.cells; obtain ⟨z0, z1, z2, z3, z4, z5, z6⟩ := hP1.out.res.cells; have f1 := hP1.out.res.frozen)))
  have hpd : Hid (parseD 5 (s.data.toList.drop 2) = (⟨5, 0, 0, x1, [], 0, 0⟩, T1.data.toList, b1)) := by
    show _ = _
    obtain ⟨e1x, e1a, e1b, _⟩ := HT1.out
    rw [e1x, e1a, e1b, HTL.out]
    rfl
  have hin : InD ⟨5, 0, 0, x1, [], 0, 0⟩ := by
    have := parse_in 5 (s.data.toList.drop 2) (by omega)
    rw [hpd.out] at this
    exact this
  obtain ⟨hF, hH, hB⟩ := hP1.out.fin hin
  obtain ⟨q0, q1, q2, q3, q4, q5, q6⟩ := hF.cells
  have HQ := hid (And.intro q0 (And.intro q1 (And.intro q2 (And.intro q3 (And.intro q4 (And.intro q5 q6))))))
  have HH := hid hH
  have HB := hid hB
  clear hF hH hB q0 q1 q2 q3 q4 q5 q6 hin
  cases b1
  · by_cases hT : T1.size = 0
    · obtain rfl := empty_of hT
      clear hT
      go_region
      go_wp2_with fail
      refine bodyPost_ret (results_msg rfl _ _ w.heap.size rfl _ _ _ _ _ _ _ HQ.out.1 HQ.out.2.1 HQ.out.2.2.1 HQ.out.2.2.2.1 HQ.out.2.2.2.2.1 HQ.out.2.2.2.2.2.1 HQ.out.2.2.2.2.2.2) rfl ?_
      exact ⟨_, ret_ok (by unfold okD; rw [hpd.out]; rfl), by rw [hpd.out]; exact HH.out, HB.out⟩
    · have hTe := hid (empty_no hT)
      have hTb : (T1.toList == ([] : List UInt8)) = false := by
        rw [ByteArray.toList_eq]
        cases hl : T1.data.toList with
        | nil => rw [hl] at hTe; cases hTe.out
        | cons x t => rfl
      go_region
      go_wp2_with fail
      refine bodyPost_ret (results_msg rfl _ _ w.heap.size rfl _ _ _ _ _ _ _ HQ.out.1 HQ.out.2.1 HQ.out.2.2.1 HQ.out.2.2.2.1 HQ.out.2.2.2.2.1 HQ.out.2.2.2.2.2.1 HQ.out.2.2.2.2.2.2) rfl ?_
      exact ⟨_, ret_ok (by unfold okD; rw [hpd.out, hTe.out]; rfl), by rw [hpd.out]; exact HH.out, HB.out⟩
  · go_region
    go_wp2_with fail
    refine bodyPost_ret (results_msg rfl _ _ w.heap.size rfl _ _ _ _ _ _ _ HQ.out.1 HQ.out.2.1 HQ.out.2.2.1 HQ.out.2.2.2.1 HQ.out.2.2.2.2.1 HQ.out.2.2.2.2.2.1 HQ.out.2.2.2.2.2.2) rfl ?_
    exact ⟨_, ret_ok (by unfold okD; rw [hpd.out]; rfl), by rw [hpd.out]; exact HH.out, HB.out⟩

set_option maxRecDepth 100000 in
set_option maxHeartbeats 4000000 in
theorem read_k6 (s : ByteArray) (w : World) (hs : s.size ≤ 1073741824) (h2 : ¬ s.size < 2) (h80 : ((s[0].toNat : Int) != 80) = false) (hk : (s[1].toNat : Int) = 6) :
    Calls Try.prog 30 #[.string s] w fun e w' => ∃ v, e = .returned (.tuple #[v, .bool (okD 6 (s.data.toList.drop 2))]) ∧ Holds w' v (parseD 6 (s.data.toList.drop 2)).1 ∧ Below w.heap.size w w' := by
  have hR0 := hid (Rig.new w ⟨6, 0, 0, 0, [], 0, 0⟩ rfl (s.extract 2 s.size))
  have hx0 : (s.extract 2 s.size).size ≤ 1073741824 := by rw [ByteArray.size_extract]; omega
  have HX0 := hid hx0
  have HTL := hid (tail_list s 2)
  clear hx0
  go_enter Try.func30, Try.ntmps30
  go_wp2_with (first
    | (go_at_call 17; ((with_reducible refine (named_c 6 _).mono ?_); rintro e w' ⟨rfl, rfl⟩; rw [show namedI 6 = 34 by decide]))
    | (go_at_call 18; ((with_reducible refine (have_c _ _ true _ (by decide)).mono ?_); rintro e w' ⟨rfl, rfl⟩))
    | (go_at_call 18; ((with_reducible refine (have_c _ _ false _ (by decide)).mono ?_); rintro e w' ⟨rfl, rfl⟩))
    | (go_at_call 49; (refine (lead_l (w.heap.size + 1 + 1) T1 b1 _ hP1.out.rd HT1.out.2.2.2).mono ?_; rintro e y2 ⟨x2, T2, b2, rfl, HT2, hr2, ho2⟩; have hR2 := hid (hP1.out.got hr2 ho2); clear hr2 ho2; obtain ⟨c0, c1, c2, c3, c4, c5, c6⟩ := hR2.out.dg.cells; have f0 := hR2.out.dg.frozen; have hP2 := hid (hR2.out.put 6 (.int .i64 x2) ⟨6, 0, x1, 0, [], 0, x2⟩ none 0 0 rfl hR2.out.vr); obtain ⟨d0, d1, d2, d3, d4, d5, d6⟩ := hP2.out.dg.cells; obtain ⟨r0, r1, r2, r3⟩ := hP2.out.rd.cells; obtain ⟨z0, z1, z2, z3, z4, z5, z6⟩ := hP2.out.res.cells; have f1 := hP2.out.res.frozen))
    | (go_at_call 47; (refine (get2_l (w.heap.size + 1 + 1) (s.extract 2 s.size) false _ hR0.out.rd HX0.out).mono ?_; rintro e y1 ⟨x1, T1, b1, rfl, HT1, hr1, ho1⟩; have hR1 := hid (hR0.out.got hr1 ho1); clear hr1 ho1; obtain ⟨c0, c1, c2, c3, c4, c5, c6⟩ := hR1.out.dg.cells; have f0 := hR1.out.dg.frozen; have hP1 := hid (hR1.out.put 2 (.int .u16 (x1 : Int)) ⟨6, 0, x1, 0, [], 0, 0⟩ none 0 0 rfl hR1.out.vr))))
  have hpd : Hid (parseD 6 (s.data.toList.drop 2) = (⟨6, 0, x1, 0, [], 0, x2⟩, T2.data.toList, b2)) := by
    show _ = _
    obtain ⟨e1x, e1a, e1b, _⟩ := HT1.out
    obtain ⟨e2x, e2a, e2b⟩ := HT2.out
    rw [e2x, e2a, e2b, e1x, e1a, e1b, HTL.out]
    rfl
  have hin : InD ⟨6, 0, x1, 0, [], 0, x2⟩ := by
    have := parse_in 6 (s.data.toList.drop 2) (by omega)
    rw [hpd.out] at this
    exact this
  obtain ⟨hF, hH, hB⟩ := hP2.out.fin hin
  obtain ⟨q0, q1, q2, q3, q4, q5, q6⟩ := hF.cells
  have HQ := hid (And.intro q0 (And.intro q1 (And.intro q2 (And.intro q3 (And.intro q4 (And.intro q5 q6))))))
  have HH := hid hH
  have HB := hid hB
  clear hF hH hB q0 q1 q2 q3 q4 q5 q6 hin
  cases b2
  · by_cases hT : T2.size = 0
    · obtain rfl := empty_of hT
      clear hT
      go_region
      go_wp2_with fail
      refine bodyPost_ret (results_msg rfl _ _ w.heap.size rfl _ _ _ _ _ _ _ HQ.out.1 HQ.out.2.1 HQ.out.2.2.1 HQ.out.2.2.2.1 HQ.out.2.2.2.2.1 HQ.out.2.2.2.2.2.1 HQ.out.2.2.2.2.2.2) rfl ?_
      exact ⟨_, ret_ok (by unfold okD; rw [hpd.out]; rfl), by rw [hpd.out]; exact HH.out, HB.out⟩
    · have hTe := hid (empty_no hT)
      have hTb : (T2.toList == ([] : List UInt8)) = false := by
        rw [ByteArray.toList_eq]
        cases hl : T2.data.toList with
        | nil => rw [hl] at hTe; cases hTe.out
        | cons x t => rfl
      go_region
      go_wp2_with fail
      refine bodyPost_ret (results_msg rfl _ _ w.heap.size rfl _ _ _ _ _ _ _ HQ.out.1 HQ.out.2.1 HQ.out.2.2.1 HQ.out.2.2.2.1 HQ.out.2.2.2.2.1 HQ.out.2.2.2.2.2.1 HQ.out.2.2.2.2.2.2) rfl ?_
      exact ⟨_, ret_ok (by unfold okD; rw [hpd.out, hTe.out]; rfl), by rw [hpd.out]; exact HH.out, HB.out⟩
  · go_region
    go_wp2_with fail
    refine bodyPost_ret (results_msg rfl _ _ w.heap.size rfl _ _ _ _ _ _ _ HQ.out.1 HQ.out.2.1 HQ.out.2.2.1 HQ.out.2.2.2.1 HQ.out.2.2.2.2.1 HQ.out.2.2.2.2.2.1 HQ.out.2.2.2.2.2.2) rfl ?_
    exact ⟨_, ret_ok (by unfold okD; rw [hpd.out]; rfl), by rw [hpd.out]; exact HH.out, HB.out⟩

end Go.Proofs.Ytnjmmmclelmeiaa.Wr
