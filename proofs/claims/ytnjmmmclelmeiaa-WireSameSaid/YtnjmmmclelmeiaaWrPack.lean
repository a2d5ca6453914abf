/- What Pack of layer 7 (wire) returns; what it makes lies in new memory. -/
import Derived.Test.YtnjmmmclelmeiaaWrRight
import Derived.Test.YtnjmmmclelmeiaaWrBox
namespace Go.Proofs.Ytnjmmmclelmeiaa.Wr
open Go.RowKit Go.Proofs.Ytnjmmmclelmeiaa.Fx Go.Proofs.Ytnjmmmclelmeiaa.Pk

theorem pack_no (v : Value) (m : Dg) (w : World) (h : Holds w v m) (hr : ¬ RightD m) :
    Calls Try.prog 8 #[v] w fun e w' => e = .returned (.tuple #[.string ⟨#[]⟩, .int .i64 1]) ∧ Below w.heap.size w w' := by
  obtain ⟨ao, L, cap, rfl, hrd, hin⟩ := h
  have HR := hid (right_c (.agg (cellsD m (.slice ao L cap))) m (w.alloc (.cells (cellsD m (.slice ao L cap)) 26)) ⟨ao, L, cap, rfl, hrd.below (box_below w _), hin⟩)
  rw [right_no hr] at HR
  go_enter Try.func8, Try.ntmps8
  go_wp2_with (go_at_call 9; ((with_reducible refine HR.out.mono ?_); rintro e w2 ⟨rfl, hw2⟩))
  go_ret2
  exact ⟨rfl, bt (box_below w _) hw2⟩

set_option maxRecDepth 100000 in
set_option maxHeartbeats 4000000 in
theorem pack_k1 (n s a u : Nat) (l : List UInt8) (d : Int) (ao : Option Addr) (L cap : Nat) (w : World) (hr : Rd w (.slice ao L cap) l) (hi : InD ⟨1, n, s, a, l, u, d⟩) (hm : RightD ⟨1, n, s, a, l, u, d⟩) :
    Calls Try.prog 8 #[.agg (cellsD ⟨1, n, s, a, l, u, d⟩ (.slice ao L cap))] w fun e w' => e = .returned (.tuple #[.string (Sm.sealS ⟨(msgL ⟨1, n, s, a, l, u, d⟩).toArray⟩), .int .i64 0]) ∧ Below w.heap.size w w' := by
  have HR := hid (right_c (.agg (cellsD ⟨1, n, s, a, l, u, d⟩ (.slice ao L cap))) ⟨1, n, s, a, l, u, d⟩ (w.alloc (.cells (cellsD ⟨1, n, s, a, l, u, d⟩ (.slice ao L cap)) 26)) ⟨ao, L, cap, rfl, hr.below (box_below w _), hi⟩)
  rw [right_yes hm] at HR
  have hlen := msg_len _ hm
  have hfit : fitB l = true := hm.2.1
  have hld : -1000 ≤ d ∧ d ≤ 1000 := hm.2.2.1
  obtain ⟨_, hn, hs, ha, hu, hd⟩ := hi
  dsimp only at hn hs ha hu hd
  have hrl := run_len2 l (fit_len hfit)
  have hsl := num_len 1 (sgnN d) (by unfold sgnN; split <;> omega)
  have HM := hid hm
  have HLEN := hid hlen
  have HFIT := hid hfit
  have HRD := hid hr
  clear hm hlen hfit hr
  go_enter Try.func8, Try.ntmps8
  go_wp2_with (first
    | (go_at_call 9; ((with_reducible refine HR.out.mono ?_); rintro e y2 ⟨rfl, hw2⟩; have hB0 := hid ((Box.new w ⟨1, n, s, a, l, u, d⟩ (.slice ao L cap)).below hw2); obtain ⟨c0, c1, c2, c3, c4, c5, c6⟩ := hB0.out.cells; have ho0 := hid (Own.two y2 80 1 80 1 rfl rfl); obtain ⟨S0, HS0, hs0⟩ := own_str ho0.out (by simp); have hBB0 := hid (bt (box_below w _) hw2); have hB1 := hid (hB0.out.below (box_below y2 (.cells #[.int .u8 80, .int .u8 1] 5))); obtain ⟨d0, d1, d2, d3, d4, d5, d6⟩ := hB1.out.cells))
    | (go_at_call 17; ((with_reducible refine (named_c 1 _).mono ?_); rintro e w' ⟨rfl, rfl⟩; rw [show namedI 1 = 1 by decide]))
    | (go_at_call 18; ((with_reducible refine (have_c _ _ true _ (by decide)).mono ?_); rintro e w' ⟨rfl, rfl⟩))
    | (go_at_call 18; ((with_reducible refine (have_c _ _ false _ (by decide)).mono ?_); rintro e w' ⟨rfl, rfl⟩))
    | (go_at_call 19; ((with_reducible refine (put4_c y2.heap.size _ ([80, 1]) n y2 _ ho0.out hn (by simp only [List.length_cons, List.length_nil]; omega)).mono ?_); rintro e y3 ⟨v1, rfl, hq1⟩; have ho1 := hid hq1; clear hq1; obtain ⟨S1, HS1, hs1⟩ := own_str ho1.out (by simp only [List.length_append, List.length_cons, List.length_nil, w4_len]; omega); have hB2 := hid (hB0.out.below ho1.out.below); obtain ⟨d0, d1, d2, d3, d4, d5, d6⟩ := hB2.out.cells))
    | (go_at_call 23; ((with_reducible refine (Sm.seal_c S1 _ (by rw [HS1.out, arr_size]; unfold maxLen; simp only [List.length_append, List.length_cons, List.length_nil, w4_len]; omega)).mono ?_); rintro e wz ⟨rfl, hwz⟩)))
  go_ret2
  refine ⟨ret_seal (HS1.out.trans (arr_eq (by simp [msgL, bodyL]))), ?_⟩
  exact bt hBB0.out (bt ho1.out.below hwz)

set_option maxRecDepth 100000 in
set_option maxHeartbeats 4000000 in
theorem pack_k2 (n s a u : Nat) (l : List UInt8) (d : Int) (ao : Option Addr) (L cap : Nat) (w : World) (hr : Rd w (.slice ao L cap) l) (hi : InD ⟨2, n, s, a, l, u, d⟩) (hm : RightD ⟨2, n, s, a, l, u, d⟩) :
    Calls Try.prog 8 #[.agg (cellsD ⟨2, n, s, a, l, u, d⟩ (.slice ao L cap))] w fun e w' => e = .returned (.tuple #[.string (Sm.sealS ⟨(msgL ⟨2, n, s, a, l, u, d⟩).toArray⟩), .int .i64 0]) ∧ Below w.heap.size w w' := by
  have HR := hid (right_c (.agg (cellsD ⟨2, n, s, a, l, u, d⟩ (.slice ao L cap))) ⟨2, n, s, a, l, u, d⟩ (w.alloc (.cells (cellsD ⟨2, n, s, a, l, u, d⟩ (.slice ao L cap)) 26)) ⟨ao, L, cap, rfl, hr.below (box_below w _), hi⟩)
  rw [right_yes hm] at HR
  have hlen := msg_len _ hm
  have hfit : fitB l = true := hm.2.1
  have hld : -1000 ≤ d ∧ d ≤ 1000 := hm.2.2.1
  obtain ⟨_, hn, hs, ha, hu, hd⟩ := hi
  dsimp only at hn hs ha hu hd
  have hrl := run_len2 l (fit_len hfit)
  have hsl := num_len 1 (sgnN d) (by unfold sgnN; split <;> omega)
  have HM := hid hm
  have HLEN := hid hlen
  have HFIT := hid hfit
  have HRD := hid hr
  clear hm hlen hfit hr
  go_enter Try.func8, Try.ntmps8
  go_wp2_with (first
    | (go_at_call 9; ((with_reducible refine HR.out.mono ?_); rintro e y2 ⟨rfl, hw2⟩; have hB0 := hid ((Box.new w ⟨2, n, s, a, l, u, d⟩ (.slice ao L cap)).below hw2); obtain ⟨c0, c1, c2, c3, c4, c5, c6⟩ := hB0.out.cells; have ho0 := hid (Own.two y2 80 2 80 2 rfl rfl); obtain ⟨S0, HS0, hs0⟩ := own_str ho0.out (by simp); have hBB0 := hid (bt (box_below w _) hw2); have hB1 := hid (hB0.out.below (box_below y2 (.cells #[.int .u8 80, .int .u8 2] 5))); obtain ⟨d0, d1, d2, d3, d4, d5, d6⟩ := hB1.out.cells))
    | (go_at_call 17; ((with_reducible refine (named_c 2 _).mono ?_); rintro e w' ⟨rfl, rfl⟩; rw [show namedI 2 = 1 by decide]))
    | (go_at_call 18; ((with_reducible refine (have_c _ _ true _ (by decide)).mono ?_); rintro e w' ⟨rfl, rfl⟩))
    | (go_at_call 18; ((with_reducible refine (have_c _ _ false _ (by decide)).mono ?_); rintro e w' ⟨rfl, rfl⟩))
    | (go_at_call 19; ((with_reducible refine (put4_c y2.heap.size _ ([80, 2]) n y2 _ ho0.out hn (by simp only [List.length_cons, List.length_nil]; omega)).mono ?_); rintro e y3 ⟨v1, rfl, hq1⟩; have ho1 := hid hq1; clear hq1; obtain ⟨S1, HS1, hs1⟩ := own_str ho1.out (by simp only [List.length_append, List.length_cons, List.length_nil, w4_len]; omega); have hB2 := hid (hB0.out.below ho1.out.below); obtain ⟨d0, d1, d2, d3, d4, d5, d6⟩ := hB2.out.cells))
    | (go_at_call 23; ((with_reducible refine (Sm.seal_c S1 _ (by rw [HS1.out, arr_size]; unfold maxLen; simp only [List.length_append, List.length_cons, List.length_nil, w4_len]; omega)).mono ?_); rintro e wz ⟨rfl, hwz⟩)))
  go_ret2
  refine ⟨ret_seal (HS1.out.trans (arr_eq (by simp [msgL, bodyL]))), ?_⟩
  exact bt hBB0.out (bt ho1.out.below hwz)

set_option maxRecDepth 100000 in
set_option maxHeartbeats 4000000 in
theorem pack_k3 (n s a u : Nat) (l : List UInt8) (d : Int) (ao : Option Addr) (L cap : Nat) (w : World) (hr : Rd w (.slice ao L cap) l) (hi : InD ⟨3, n, s, a, l, u, d⟩) (hm : RightD ⟨3, n, s, a, l, u, d⟩) :
    Calls Try.prog 8 #[.agg (cellsD ⟨3, n, s, a, l, u, d⟩ (.slice ao L cap))] w fun e w' => e = .returned (.tuple #[.string (Sm.sealS ⟨(msgL ⟨3, n, s, a, l, u, d⟩).toArray⟩), .int .i64 0]) ∧ Below w.heap.size w w' := by
  have HR := hid (right_c (.agg (cellsD ⟨3, n, s, a, l, u, d⟩ (.slice ao L cap))) ⟨3, n, s, a, l, u, d⟩ (w.alloc (.cells (cellsD ⟨3, n, s, a, l, u, d⟩ (.slice ao L cap)) 26)) ⟨ao, L, cap, rfl, hr.below (box_below w _), hi⟩)
  rw [right_yes hm] at HR
  have hlen := msg_len _ hm
  have hfit : fitB l = true := hm.2.1
  have hld : -1000 ≤ d ∧ d ≤ 1000 := hm.2.2.1
  obtain ⟨_, hn, hs, ha, hu, hd⟩ := hi
  dsimp only at hn hs ha hu hd
  have hrl := run_len2 l (fit_len hfit)
  have hsl := num_len 1 (sgnN d) (by unfold sgnN; split <;> omega)
  have HM := hid hm
  have HLEN := hid hlen
  have HFIT := hid hfit
  have HRD := hid hr
  clear hm hlen hfit hr
  go_enter Try.func8, Try.ntmps8
  go_wp2_with (first
    | (go_at_call 9; ((with_reducible refine HR.out.mono ?_); rintro e y2 ⟨rfl, hw2⟩; have hB0 := hid ((Box.new w ⟨3, n, s, a, l, u, d⟩ (.slice ao L cap)).below hw2); obtain ⟨c0, c1, c2, c3, c4, c5, c6⟩ := hB0.out.cells; have ho0 := hid (Own.two y2 80 3 80 3 rfl rfl); obtain ⟨S0, HS0, hs0⟩ := own_str ho0.out (by simp); have hBB0 := hid (bt (box_below w _) hw2); have hB1 := hid (hB0.out.below (box_below y2 (.cells #[.int .u8 80, .int .u8 3] 5))); obtain ⟨d0, d1, d2, d3, d4, d5, d6⟩ := hB1.out.cells))
    | (go_at_call 17; ((with_reducible refine (named_c 3 _).mono ?_); rintro e w' ⟨rfl, rfl⟩; rw [show namedI 3 = 14 by decide]))
    | (go_at_call 18; ((with_reducible refine (have_c _ _ true _ (by decide)).mono ?_); rintro e w' ⟨rfl, rfl⟩))
    | (go_at_call 18; ((with_reducible refine (have_c _ _ false _ (by decide)).mono ?_); rintro e w' ⟨rfl, rfl⟩))
    | (go_at_call 20; ((with_reducible refine (put2_c y2.heap.size _ ([80, 3]) s y2 _ ho0.out hs (by simp only [List.length_cons, List.length_nil]; omega)).mono ?_); rintro e y3 ⟨v1, rfl, hq1⟩; have ho1 := hid hq1; clear hq1; obtain ⟨S1, HS1, hs1⟩ := own_str ho1.out (by simp only [List.length_append, List.length_cons, List.length_nil, w2_len]; omega); have hB2 := hid (hB0.out.below ho1.out.below); obtain ⟨d0, d1, d2, d3, d4, d5, d6⟩ := hB2.out.cells))
    | (go_at_call 20; ((with_reducible refine (put2_c y2.heap.size _ ([80, 3] ++ w2 s) a y2 _ ho1.out ha (by simp only [List.length_append, List.length_cons, List.length_nil, w2_len]; omega)).mono ?_); rintro e y4 ⟨v2, rfl, hq2⟩; have ho2 := hid hq2; clear hq2; obtain ⟨S2, HS2, hs2⟩ := own_str ho2.out (by simp only [List.length_append, List.length_cons, List.length_nil, w2_len]; omega); have hB3 := hid (hB0.out.below ho2.out.below); obtain ⟨d0, d1, d2, d3, d4, d5, d6⟩ := hB3.out.cells))
    | (go_at_call 21; ((with_reducible refine (run_ok _ l _ (HRD.out.below (bt hBB0.out ho2.out.below)) HFIT.out).mono ?_); rintro e wr ⟨rfl, hwr⟩; have hor := hid (ho2.out.old hwr)))
    | (at_builtin; (refine append_str rfl (.tmp 44) (.tmp 45) rfl y2.heap.size _ ([80, 3] ++ w2 s ++ w2 a) (runL l) y2 rfl hor.out rfl (by simp only [List.length_append, List.length_cons, List.length_nil, w2_len]; omega) ?_); intro v3 y5 hq3; have ho3 := hid hq3; clear hq3; obtain ⟨S3, HS3, hs3⟩ := own_str ho3.out (by simp only [List.length_append, List.length_cons, List.length_nil, w2_len]; omega); have hB4 := hid (hB0.out.below ho3.out.below); obtain ⟨d0, d1, d2, d3, d4, d5, d6⟩ := hB4.out.cells)
    | (go_at_call 23; ((with_reducible refine (Sm.seal_c S3 _ (by rw [HS3.out, arr_size]; unfold maxLen; simp only [List.length_append, List.length_cons, List.length_nil, w2_len]; omega)).mono ?_); rintro e wz ⟨rfl, hwz⟩)))
  go_ret2
  refine ⟨ret_seal (HS3.out.trans (arr_eq (by simp [msgL, bodyL]))), ?_⟩
  exact bt hBB0.out (bt ho3.out.below hwz)

set_option maxRecDepth 100000 in
set_option maxHeartbeats 4000000 in
theorem pack_k4 (n s a u : Nat) (l : List UInt8) (d : Int) (ao : Option Addr) (L cap : Nat) (w : World) (hr : Rd w (.slice ao L cap) l) (hi : InD ⟨4, n, s, a, l, u, d⟩) (hm : RightD ⟨4, n, s, a, l, u, d⟩) :
    Calls Try.prog 8 #[.agg (cellsD ⟨4, n, s, a, l, u, d⟩ (.slice ao L cap))] w fun e w' => e = .returned (.tuple #[.string (Sm.sealS ⟨(msgL ⟨4, n, s, a, l, u, d⟩).toArray⟩), .int .i64 0]) ∧ Below w.heap.size w w' := by
  have HR := hid (right_c (.agg (cellsD ⟨4, n, s, a, l, u, d⟩ (.slice ao L cap))) ⟨4, n, s, a, l, u, d⟩ (w.alloc (.cells (cellsD ⟨4, n, s, a, l, u, d⟩ (.slice ao L cap)) 26)) ⟨ao, L, cap, rfl, hr.below (box_below w _), hi⟩)
  rw [right_yes hm] at HR
  have hlen := msg_len _ hm
  have hfit : fitB l = true := hm.2.1
  have hld : -1000 ≤ d ∧ d ≤ 1000 := hm.2.2.1
  obtain ⟨_, hn, hs, ha, hu, hd⟩ := hi
  dsimp only at hn hs ha hu hd
  have hrl := run_len2 l (fit_len hfit)
  have hsl := num_len 1 (sgnN d) (by unfold sgnN; split <;> omega)
  have HM := hid hm
  have HLEN := hid hlen
  have HFIT := hid hfit
  have HRD := hid hr
  clear hm hlen hfit hr
  go_enter Try.func8, Try.ntmps8
  go_wp2_with (first
    | (go_at_call 9; ((with_reducible refine HR.out.mono ?_); rintro e y2 ⟨rfl, hw2⟩; have hB0 := hid ((Box.new w ⟨4, n, s, a, l, u, d⟩ (.slice ao L cap)).below hw2); obtain ⟨c0, c1, c2, c3, c4, c5, c6⟩ := hB0.out.cells; have ho0 := hid (Own.two y2 80 4 80 4 rfl rfl); obtain ⟨S0, HS0, hs0⟩ := own_str ho0.out (by simp); have hBB0 := hid (bt (box_below w _) hw2); have hB1 := hid (hB0.out.below (box_below y2 (.cells #[.int .u8 80, .int .u8 4] 5))); obtain ⟨d0, d1, d2, d3, d4, d5, d6⟩ := hB1.out.cells))
    | (go_at_call 17; ((with_reducible refine (named_c 4 _).mono ?_); rintro e w' ⟨rfl, rfl⟩; rw [show namedI 4 = 18 by decide]))
    | (go_at_call 18; ((with_reducible refine (have_c _ _ true _ (by decide)).mono ?_); rintro e w' ⟨rfl, rfl⟩))
    | (go_at_call 18; ((with_reducible refine (have_c _ _ false _ (by decide)).mono ?_); rintro e w' ⟨rfl, rfl⟩))
    | (go_at_call 20; ((with_reducible refine (put2_c y2.heap.size _ ([80, 4]) s y2 _ ho0.out hs (by simp only [List.length_cons, List.length_nil]; omega)).mono ?_); rintro e y3 ⟨v1, rfl, hq1⟩; have ho1 := hid hq1; clear hq1; obtain ⟨S1, HS1, hs1⟩ := own_str ho1.out (by simp only [List.length_append, List.length_cons, List.length_nil, w2_len]; omega); have hB2 := hid (hB0.out.below ho1.out.below); obtain ⟨d0, d1, d2, d3, d4, d5, d6⟩ := hB2.out.cells))
    | (go_at_call 19; ((with_reducible refine (put4_c y2.heap.size _ ([80, 4] ++ w2 s) u y2 _ ho1.out hu (by simp only [List.length_append, List.length_cons, List.length_nil, w2_len]; omega)).mono ?_); rintro e y4 ⟨v2, rfl, hq2⟩; have ho2 := hid hq2; clear hq2; obtain ⟨S2, HS2, hs2⟩ := own_str ho2.out (by simp only [List.length_append, List.length_cons, List.length_nil, w4_len, w2_len]; omega); have hB3 := hid (hB0.out.below ho2.out.below); obtain ⟨d0, d1, d2, d3, d4, d5, d6⟩ := hB3.out.cells))
    | (go_at_call 23; ((with_reducible refine (Sm.seal_c S2 _ (by rw [HS2.out, arr_size]; unfold maxLen; simp only [List.length_append, List.length_cons, List.length_nil, w4_len, w2_len]; omega)).mono ?_); rintro e wz ⟨rfl, hwz⟩)))
  go_ret2
  refine ⟨ret_seal (HS2.out.trans (arr_eq (by simp [msgL, bodyL]))), ?_⟩
  exact bt hBB0.out (bt ho2.out.below hwz)

set_option maxRecDepth 100000 in
set_option maxHeartbeats 4000000 in
theorem pack_k5 (n s a u : Nat) (l : List UInt8) (d : Int) (ao : Option Addr) (L cap : Nat) (w : World) (hr : Rd w (.slice ao L cap) l) (hi : InD ⟨5, n, s, a, l, u, d⟩) (hm : RightD ⟨5, n, s, a, l, u, d⟩) :
    Calls Try.prog 8 #[.agg (cellsD ⟨5, n, s, a, l, u, d⟩ (.slice ao L cap))] w fun e w' => e = .returned (.tuple #[.string (Sm.sealS ⟨(msgL ⟨5, n, s, a, l, u, d⟩).toArray⟩), .int .i64 0]) ∧ Below w.heap.size w w' := by
  have HR := hid (right_c (.agg (cellsD ⟨5, n, s, a, l, u, d⟩ (.slice ao L cap))) ⟨5, n, s, a, l, u, d⟩ (w.alloc (.cells (cellsD ⟨5, n, s, a, l, u, d⟩ (.slice ao L cap)) 26)) ⟨ao, L, cap, rfl, hr.below (box_below w _), hi⟩)
  rw [right_yes hm] at HR
  have hlen := msg_len _ hm
  have hfit : fitB l = true := hm.2.1
  have hld : -1000 ≤ d ∧ d ≤ 1000 := hm.2.2.1
  obtain ⟨_, hn, hs, ha, hu, hd⟩ := hi
  dsimp only at hn hs ha hu hd
  have hrl := run_len2 l (fit_len hfit)
  have hsl := num_len 1 (sgnN d) (by unfold sgnN; split <;> omega)
  have HM := hid hm
  have HLEN := hid hlen
  have HFIT := hid hfit
  have HRD := hid hr
  clear hm hlen hfit hr
  go_enter Try.func8, Try.ntmps8
  go_wp2_with (first
    | (go_at_call 9; ((with_reducible refine HR.out.mono ?_); rintro e y2 ⟨rfl, hw2⟩; have hB0 := hid ((Box.new w ⟨5, n, s, a, l, u, d⟩ (.slice ao L cap)).below hw2); obtain ⟨c0, c1, c2, c3, c4, c5, c6⟩ := hB0.out.cells; have ho0 := hid (Own.two y2 80 5 80 5 rfl rfl); obtain ⟨S0, HS0, hs0⟩ := own_str ho0.out (by simp); have hBB0 := hid (bt (box_below w _) hw2); have hB1 := hid (hB0.out.below (box_below y2 (.cells #[.int .u8 80, .int .u8 5] 5))); obtain ⟨d0, d1, d2, d3, d4, d5, d6⟩ := hB1.out.cells))
    | (go_at_call 17; ((with_reducible refine (named_c 5 _).mono ?_); rintro e w' ⟨rfl, rfl⟩; rw [show namedI 5 = 4 by decide]))
    | (go_at_call 18; ((with_reducible refine (have_c _ _ true _ (by decide)).mono ?_); rintro e w' ⟨rfl, rfl⟩))
    | (go_at_call 18; ((with_reducible refine (have_c _ _ false _ (by decide)).mono ?_); rintro e w' ⟨rfl, rfl⟩))
    | (go_at_call 20; ((with_reducible refine (put2_c y2.heap.size _ ([80, 5]) a y2 _ ho0.out ha (by simp only [List.length_cons, List.length_nil]; omega)).mono ?_); rintro e y3 ⟨v1, rfl, hq1⟩; have ho1 := hid hq1; clear hq1; obtain ⟨S1, HS1, hs1⟩ := own_str ho1.out (by simp only [List.length_append, List.length_cons, List.length_nil, w2_len]; omega); have hB2 := hid (hB0.out.below ho1.out.below); obtain ⟨d0, d1, d2, d3, d4, d5, d6⟩ := hB2.out.cells))
    | (go_at_call 23; ((with_reducible refine (Sm.seal_c S1 _ (by rw [HS1.out, arr_size]; unfold maxLen; simp only [List.length_append, List.length_cons, List.length_nil, w2_len]; omega)).mono ?_); rintro e wz ⟨rfl, hwz⟩)))
  go_ret2
  refine ⟨ret_seal (HS1.out.trans (arr_eq (by simp [msgL, bodyL]))), ?_⟩
  exact bt hBB0.out (bt ho1.out.below hwz)

set_option maxRecDepth 100000 in
set_option maxHeartbeats 4000000 in
theorem pack_k6 (n s a u : Nat) (l : List UInt8) (d : Int) (ao : Option Addr) (L cap : Nat) (w : World) (hr : Rd w (.slice ao L cap) l) (hi : InD ⟨6, n, s, a, l, u, d⟩) (hm : RightD ⟨6, n, s, a, l, u, d⟩) :
    Calls Try.prog 8 #[.agg (cellsD ⟨6, n, s, a, l, u, d⟩ (.slice ao L cap))] w fun e w' => e = .returned (.tuple #[.string (Sm.sealS ⟨(msgL ⟨6, n, s, a, l, u, d⟩).toArray⟩), .int .i64 0]) ∧ Below w.heap.size w w' := by
  have HR := hid (right_c (.agg (cellsD ⟨6, n, s, a, l, u, d⟩ (.slice ao L cap))) ⟨6, n, s, a, l, u, d⟩ (w.alloc (.cells (cellsD ⟨6, n, s, a, l, u, d⟩ (.slice ao L cap)) 26)) ⟨ao, L, cap, rfl, hr.below (box_below w _), hi⟩)
  rw [right_yes hm] at HR
  have hlen := msg_len _ hm
  have hfit : fitB l = true := hm.2.1
  have hld : -1000 ≤ d ∧ d ≤ 1000 := hm.2.2.1
  obtain ⟨_, hn, hs, ha, hu, hd⟩ := hi
  dsimp only at hn hs ha hu hd
  have hrl := run_len2 l (fit_len hfit)
  have hsl := num_len 1 (sgnN d) (by unfold sgnN; split <;> omega)
  have HM := hid hm
  have HLEN := hid hlen
  have HFIT := hid hfit
  have HRD := hid hr
  clear hm hlen hfit hr
  go_enter Try.func8, Try.ntmps8
  go_wp2_with (first
    | (go_at_call 9; ((with_reducible refine HR.out.mono ?_); rintro e y2 ⟨rfl, hw2⟩; have hB0 := hid ((Box.new w ⟨6, n, s, a, l, u, d⟩ (.slice ao L cap)).below hw2); obtain ⟨c0, c1, c2, c3, c4, c5, c6⟩ := hB0.out.cells; have ho0 := hid (Own.two y2 80 6 80 6 rfl rfl); obtain ⟨S0, HS0, hs0⟩ := own_str ho0.out (by simp); have hBB0 := hid (bt (box_below w _) hw2); have hB1 := hid (hB0.out.below (box_below y2 (.cells #[.int .u8 80, .int .u8 6] 5))); obtain ⟨d0, d1, d2, d3, d4, d5, d6⟩ := hB1.out.cells))
    | (go_at_call 17; ((with_reducible refine (named_c 6 _).mono ?_); rintro e w' ⟨rfl, rfl⟩; rw [show namedI 6 = 34 by decide]))
    | (go_at_call 18; ((with_reducible refine (have_c _ _ true _ (by decide)).mono ?_); rintro e w' ⟨rfl, rfl⟩))
    | (go_at_call 18; ((with_reducible refine (have_c _ _ false _ (by decide)).mono ?_); rintro e w' ⟨rfl, rfl⟩))
    | (go_at_call 20; ((with_reducible refine (put2_c y2.heap.size _ ([80, 6]) s y2 _ ho0.out hs (by simp only [List.length_cons, List.length_nil]; omega)).mono ?_); rintro e y3 ⟨v1, rfl, hq1⟩; have ho1 := hid hq1; clear hq1; obtain ⟨S1, HS1, hs1⟩ := own_str ho1.out (by simp only [List.length_append, List.length_cons, List.length_nil, w2_len]; omega); have hB2 := hid (hB0.out.below ho1.out.below); obtain ⟨d0, d1, d2, d3, d4, d5, d6⟩ := hB2.out.cells))
    | (go_at_call 22; ((with_reducible refine (signed_c d _ hd.1 hd.2).mono ?_); rintro e wr ⟨rfl, hwr⟩; have hor := hid (ho1.out.old hwr)))
    | (at_builtin; (refine append_str rfl (.tmp 55) (.tmp 58) rfl y2.heap.size _ ([80, 6] ++ w2 s) (numL (sgnN d)) y2 rfl hor.out rfl (by simp only [List.length_append, List.length_cons, List.length_nil, w2_len]; omega) ?_); intro v2 y4 hq2; have ho2 := hid hq2; clear hq2; obtain ⟨S2, HS2, hs2⟩ := own_str ho2.out (by simp only [List.length_append, List.length_cons, List.length_nil, w2_len]; omega); have hB3 := hid (hB0.out.below ho2.out.below); obtain ⟨d0, d1, d2, d3, d4, d5, d6⟩ := hB3.out.cells)
    | (go_at_call 23; ((with_reducible refine (Sm.seal_c S2 _ (by rw [HS2.out, arr_size]; unfold maxLen; simp only [List.length_append, List.length_cons, List.length_nil, w2_len]; omega)).mono ?_); rintro e wz ⟨rfl, hwz⟩)))
  go_ret2
  refine ⟨ret_seal (HS2.out.trans (arr_eq (by simp [msgL, bodyL]))), ?_⟩
  exact bt hBB0.out (bt ho2.out.below hwz)

set_option maxRecDepth 100000 in
set_option maxHeartbeats 4000000 in
theorem pack_k7 (n s a u : Nat) (l : List UInt8) (d : Int) (ao : Option Addr) (L cap : Nat) (w : World) (hr : Rd w (.slice ao L cap) l) (hi : InD ⟨7, n, s, a, l, u, d⟩) (hm : RightD ⟨7, n, s, a, l, u, d⟩) :
    Calls Try.prog 8 #[.agg (cellsD ⟨7, n, s, a, l, u, d⟩ (.slice ao L cap))] w fun e w' => e = .returned (.tuple #[.string (Sm.sealS ⟨(msgL ⟨7, n, s, a, l, u, d⟩).toArray⟩), .int .i64 0]) ∧ Below w.heap.size w w' := by
  have HR := hid (right_c (.agg (cellsD ⟨7, n, s, a, l, u, d⟩ (.slice ao L cap))) ⟨7, n, s, a, l, u, d⟩ (w.alloc (.cells (cellsD ⟨7, n, s, a, l, u, d⟩ (.slice ao L cap)) 26)) ⟨ao, L, cap, rfl, hr.below (box_below w _), hi⟩)
  rw [right_yes hm] at HR
  have hlen := msg_len _ hm
  have hfit : fitB l = true := hm.2.1
  have hld : -1000 ≤ d ∧ d ≤ 1000 := hm.2.2.1
  obtain ⟨_, hn, hs, ha, hu, hd⟩ := hi
  dsimp only at hn hs ha hu hd
  have hrl := run_len2 l (fit_len hfit)
  have hsl := num_len 1 (sgnN d) (by unfold sgnN; split <;> omega)
  have HM := hid hm
  have HLEN := hid hlen
  have HFIT := hid hfit
  have HRD := hid hr
  clear hm hlen hfit hr
  go_enter Try.func8, Try.ntmps8
  go_wp2_with (first
    | (go_at_call 9; ((with_reducible refine HR.out.mono ?_); rintro e y2 ⟨rfl, hw2⟩; have hB0 := hid ((Box.new w ⟨7, n, s, a, l, u, d⟩ (.slice ao L cap)).below hw2); obtain ⟨c0, c1, c2, c3, c4, c5, c6⟩ := hB0.out.cells; have ho0 := hid (Own.two y2 80 7 80 7 rfl rfl); obtain ⟨S0, HS0, hs0⟩ := own_str ho0.out (by simp); have hBB0 := hid (bt (box_below w _) hw2); have hB1 := hid (hB0.out.below (box_below y2 (.cells #[.int .u8 80, .int .u8 7] 5))); obtain ⟨d0, d1, d2, d3, d4, d5, d6⟩ := hB1.out.cells))
    | (go_at_call 17; ((with_reducible refine (named_c 7 _).mono ?_); rintro e w' ⟨rfl, rfl⟩; rw [show namedI 7 = 0 by decide]))
    | (go_at_call 18; ((with_reducible refine (have_c _ _ true _ (by decide)).mono ?_); rintro e w' ⟨rfl, rfl⟩))
    | (go_at_call 18; ((with_reducible refine (have_c _ _ false _ (by decide)).mono ?_); rintro e w' ⟨rfl, rfl⟩))
    | (go_at_call 23; ((with_reducible refine (Sm.seal_c S0 _ (by rw [HS0.out, arr_size]; unfold maxLen; simp only [List.length_cons, List.length_nil]; omega)).mono ?_); rintro e wz ⟨rfl, hwz⟩)))
  go_ret2
  refine ⟨ret_seal (HS0.out.trans (arr_eq (by simp [msgL, bodyL]))), ?_⟩
  exact bt hBB0.out (bt ho0.out.below hwz)

theorem pack_ok (v : Value) (m : Dg) (w : World) (h : Holds w v m) (hr : RightD m) :
    Calls Try.prog 8 #[v] w fun e w' => e = .returned (.tuple #[.string (Sm.sealS ⟨(msgL m).toArray⟩), .int .i64 0]) ∧ Below w.heap.size w w' := by
  obtain ⟨ao, L, cap, rfl, hrd, hin⟩ := h
  obtain ⟨k, n, s, a, l, u, d⟩ := m
  have hk : k = 1 ∨ k = 2 ∨ k = 3 ∨ k = 4 ∨ k = 5 ∨ k = 6 ∨ k = 7 := by have := hr.1; dsimp only at this; omega
  rcases hk with rfl | rfl | rfl | rfl | rfl | rfl | rfl
  · exact pack_k1 n s a u l d ao L cap w hrd hin hr
  · exact pack_k2 n s a u l d ao L cap w hrd hin hr
  · exact pack_k3 n s a u l d ao L cap w hrd hin hr
  · exact pack_k4 n s a u l d ao L cap w hrd hin hr
  · exact pack_k5 n s a u l d ao L cap w hrd hin hr
  · exact pack_k6 n s a u l d ao L cap w hrd hin hr
  · exact pack_k7 n s a u l d ao L cap w hrd hin hr

end Go.Proofs.Ytnjmmmclelmeiaa.Wr
