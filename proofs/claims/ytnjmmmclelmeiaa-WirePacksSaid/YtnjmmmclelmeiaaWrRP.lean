/- What the document's Pack of layer 7 (wire) returns; what it makes lies in new memory. -/
import Derived.Test.YtnjmmmclelmeiaaWrWord
import Derived.Test.YtnjmmmclelmeiaaPkRunR
import Derived.Test.YtnjmmmclelmeiaaSmSeals
import Derived.Deep.RegionHeld3
namespace Go.Proofs.Ytnjmmmclelmeiaa.Wr
open Go.RowKit Go.Proofs.Ytnjmmmclelmeiaa.Fx Go.Proofs.Ytnjmmmclelmeiaa.Pk

theorem ret_rseal {s t : ByteArray} (h : s = t) : Ending.returned (.string (Sm.sealS s)) = .returned (.string (Sm.sealS t)) := by rw [h]
theorem word4_l (n : Nat) (A : ByteArray) (w : World) (hn : n < 4294967296) (h : A = ⟨(w4 n).toArray⟩) :
    Calls Try.prog 31 #[.int .u64 (n : Int), .int .i64 4] w fun e w' => e = .returned (.string A) ∧ Below w.heap.size w w' := by
  rw [h]; exact word4_c n w hn
theorem word2_l (n : Nat) (A : ByteArray) (w : World) (hn : n < 65536) (h : A = ⟨(w2 n).toArray⟩) :
    Calls Try.prog 31 #[.int .u64 (n : Int), .int .i64 2] w fun e w' => e = .returned (.string A) ∧ Below w.heap.size w w' := by
  rw [h]; exact word2_c n w hn
theorem two_run (W : World) (a c : UInt8) (x y : Int) (hx : (a.toNat : Int) = x) (hy : (c.toNat : Int) = y) (A : ByteArray) (hA : A = ⟨[a, c].toArray⟩) :
    (convert 24 9 (.slice (some ⟨W.heap.size, 0, none⟩) 2 2)).run Try.prog (W.alloc (.cells #[.int .u8 x, .int .u8 y] 5)) = .ok (.string A) (W.alloc (.cells #[.int .u8 x, .int .u8 y] 5)) := by
  subst hx hy hA
  exact conv_row W _ [a, c] 2 rfl rfl
theorem add_l (A B C : ByteArray) (l k : List UInt8) (hA : A = ⟨l.toArray⟩) (hB : B = ⟨k.toArray⟩) (hC : C = ⟨(l ++ k).toArray⟩) (h : l.length + k.length ≤ 140737488355328) (W : World) : (Op.stringOp .add A B).run Try.prog W = .ok (.string C) W := by
  rw [hA, hB, hC]; exact add_run l k W h
/-- what is kept of a datagram while new memory is made. -/
theorem keep_of {y W : World} {b : Nat} {m : Dg} {v : Value} (h : Box y b m v) (hb : Below y.heap.size y W) : Below y.heap.size y W ∧ W.cell? ⟨b, 2, none⟩ = some (.int .u16 (m.serial : Int)) ∧ W.cell? ⟨b, 3, none⟩ = some (.int .u16 (m.ack : Int)) ∧ W.cell? ⟨b, 4, none⟩ = some v ∧ W.cell? ⟨b, 5, none⟩ = some (.int .u32 (m.sum : Int)) ∧ W.cell? ⟨b, 6, none⟩ = some (.int .i64 m.lead) := by
  obtain ⟨_, _, c2, c3, c4, c5, c6⟩ := (h.below hb).cells
  exact ⟨hb, c2, c3, c4, c5, c6⟩

set_option maxRecDepth 100000 in
set_option maxHeartbeats 4000000 in
theorem rpack_k1 (n s a u : Nat) (l : List UInt8) (d : Int) (ao : Option Addr) (L cap : Nat) (w : World) (hr : Rd w (.slice ao L cap) l) (hi : InD ⟨1, n, s, a, l, u, d⟩) (hm : RightD ⟨1, n, s, a, l, u, d⟩) :
    Calls Try.prog 12 #[.agg (cellsD ⟨1, n, s, a, l, u, d⟩ (.slice ao L cap))] w fun e w' => e = .returned (.string (Sm.sealS ⟨(msgL ⟨1, n, s, a, l, u, d⟩).toArray⟩)) ∧ Below w.heap.size w w' := by
  have hfit : fitB l = true := hm.2.1
  have hld : -1000 ≤ d ∧ d ≤ 1000 := hm.2.2.1
  obtain ⟨_, hn, hs, ha, hu, hd⟩ := hi
  dsimp only at hn hs ha hu hd
  have hfl := fit_len hfit
  have hrl := run_len2 l hfl
  have hsl := num_len 1 (sgnN d) (by unfold sgnN; split <;> omega)
  obtain ⟨C0, HC0⟩ : ∃ C : ByteArray, Hid (C = ⟨([80, 1] : List UInt8).toArray⟩) := ⟨_, hid rfl⟩
  have hcv := two_run (w.alloc (.cells (cellsD ⟨1, n, s, a, l, u, d⟩ (.slice ao L cap)) 26)) 80 1 80 1 rfl rfl C0 HC0.out
  rw [show (w.alloc (.cells (cellsD ⟨1, n, s, a, l, u, d⟩ (.slice ao L cap)) 26)).heap.size = w.heap.size + 1 by simp] at hcv
  obtain ⟨B1, HB1⟩ : ∃ C : ByteArray, Hid (C = ⟨(w4 n).toArray⟩) := ⟨_, hid rfl⟩
  obtain ⟨C1, HC1⟩ : ∃ C : ByteArray, Hid (C = ⟨([80, 1] ++ w4 n).toArray⟩) := ⟨_, hid rfl⟩
  have ha1 := add_l C0 B1 C1 ([80, 1]) (w4 n) HC0.out HB1.out HC1.out (by simp only [List.length_cons, List.length_nil, w4_len]; omega)
  have hz1 : C1.size + 4 ≤ maxLen := by rw [HC1.out, arr_size]; unfold maxLen; simp only [List.length_append, List.length_cons, List.length_nil, w4_len]; omega
  have HZ := hid hz1
  have HRD := hid hr
  clear hm hfit hr hz1
  go_enter Try.func12, Try.ntmps12
  go_wp2_with (first
    | (go_at_call 31; (with_reducible refine (word4_l n B1 _ hn HB1.out).mono ?_; rintro e y1 ⟨rfl, hy1⟩))
    | (go_at_call 15; (refine (Sm.rseal_c C1 _ HZ.out).mono ?_; rintro e yz ⟨rfl, hyz⟩)))
  go_ret
  refine ⟨ret_rseal (HC1.out.trans (arr_eq (by simp [msgL, bodyL]))), ?_⟩
  have hb0 := bt (box_below w (.cells (cellsD ⟨1, n, s, a, l, u, d⟩ (.slice ao L cap)) 26)) (box_below _ (.cells #[.int .u8 80, .int .u8 1] 5))
  exact bt (bt hb0 hy1) hyz

set_option maxRecDepth 100000 in
set_option maxHeartbeats 4000000 in
theorem rpack_k2 (n s a u : Nat) (l : List UInt8) (d : Int) (ao : Option Addr) (L cap : Nat) (w : World) (hr : Rd w (.slice ao L cap) l) (hi : InD ⟨2, n, s, a, l, u, d⟩) (hm : RightD ⟨2, n, s, a, l, u, d⟩) :
    Calls Try.prog 12 #[.agg (cellsD ⟨2, n, s, a, l, u, d⟩ (.slice ao L cap))] w fun e w' => e = .returned (.string (Sm.sealS ⟨(msgL ⟨2, n, s, a, l, u, d⟩).toArray⟩)) ∧ Below w.heap.size w w' := by
  have hfit : fitB l = true := hm.2.1
  have hld : -1000 ≤ d ∧ d ≤ 1000 := hm.2.2.1
  obtain ⟨_, hn, hs, ha, hu, hd⟩ := hi
  dsimp only at hn hs ha hu hd
  have hfl := fit_len hfit
  have hrl := run_len2 l hfl
  have hsl := num_len 1 (sgnN d) (by unfold sgnN; split <;> omega)
  obtain ⟨C0, HC0⟩ : ∃ C : ByteArray, Hid (C = ⟨([80, 2] : List UInt8).toArray⟩) := ⟨_, hid rfl⟩
  have hcv := two_run (w.alloc (.cells (cellsD ⟨2, n, s, a, l, u, d⟩ (.slice ao L cap)) 26)) 80 2 80 2 rfl rfl C0 HC0.out
  rw [show (w.alloc (.cells (cellsD ⟨2, n, s, a, l, u, d⟩ (.slice ao L cap)) 26)).heap.size = w.heap.size + 1 by simp] at hcv
  obtain ⟨B1, HB1⟩ : ∃ C : ByteArray, Hid (C = ⟨(w4 n).toArray⟩) := ⟨_, hid rfl⟩
  obtain ⟨C1, HC1⟩ : ∃ C : ByteArray, Hid (C = ⟨([80, 2] ++ w4 n).toArray⟩) := ⟨_, hid rfl⟩
  have ha1 := add_l C0 B1 C1 ([80, 2]) (w4 n) HC0.out HB1.out HC1.out (by simp only [List.length_cons, List.length_nil, w4_len]; omega)
  have hz1 : C1.size + 4 ≤ maxLen := by rw [HC1.out, arr_size]; unfold maxLen; simp only [List.length_append, List.length_cons, List.length_nil, w4_len]; omega
  have HZ := hid hz1
  have HRD := hid hr
  clear hm hfit hr hz1
  go_enter Try.func12, Try.ntmps12
  go_wp2_with (first
    | (go_at_call 31; (with_reducible refine (word4_l n B1 _ hn HB1.out).mono ?_; rintro e y1 ⟨rfl, hy1⟩))
    | (go_at_call 15; (refine (Sm.rseal_c C1 _ HZ.out).mono ?_; rintro e yz ⟨rfl, hyz⟩)))
  go_ret
  refine ⟨ret_rseal (HC1.out.trans (arr_eq (by simp [msgL, bodyL]))), ?_⟩
  have hb0 := bt (box_below w (.cells (cellsD ⟨2, n, s, a, l, u, d⟩ (.slice ao L cap)) 26)) (box_below _ (.cells #[.int .u8 80, .int .u8 2] 5))
  exact bt (bt hb0 hy1) hyz

set_option maxRecDepth 100000 in
set_option maxHeartbeats 4000000 in
theorem rpack_k3 (n s a u : Nat) (l : List UInt8) (d : Int) (ao : Option Addr) (L cap : Nat) (w : World) (hr : Rd w (.slice ao L cap) l) (hi : InD ⟨3, n, s, a, l, u, d⟩) (hm : RightD ⟨3, n, s, a, l, u, d⟩) :
    Calls Try.prog 12 #[.agg (cellsD ⟨3, n, s, a, l, u, d⟩ (.slice ao L cap))] w fun e w' => e = .returned (.string (Sm.sealS ⟨(msgL ⟨3, n, s, a, l, u, d⟩).toArray⟩)) ∧ Below w.heap.size w w' := by
  have hfit : fitB l = true := hm.2.1
  have hld : -1000 ≤ d ∧ d ≤ 1000 := hm.2.2.1
  obtain ⟨_, hn, hs, ha, hu, hd⟩ := hi
  dsimp only at hn hs ha hu hd
  have hfl := fit_len hfit
  have hrl := run_len2 l hfl
  have hsl := num_len 1 (sgnN d) (by unfold sgnN; split <;> omega)
  obtain ⟨C0, HC0⟩ : ∃ C : ByteArray, Hid (C = ⟨([80, 3] : List UInt8).toArray⟩) := ⟨_, hid rfl⟩
  have hcv := two_run (w.alloc (.cells (cellsD ⟨3, n, s, a, l, u, d⟩ (.slice ao L cap)) 26)) 80 3 80 3 rfl rfl C0 HC0.out
  rw [show (w.alloc (.cells (cellsD ⟨3, n, s, a, l, u, d⟩ (.slice ao L cap)) 26)).heap.size = w.heap.size + 1 by simp] at hcv
  obtain ⟨B1, HB1⟩ : ∃ C : ByteArray, Hid (C = ⟨(w2 s).toArray⟩) := ⟨_, hid rfl⟩
  obtain ⟨C1, HC1⟩ : ∃ C : ByteArray, Hid (C = ⟨([80, 3] ++ w2 s).toArray⟩) := ⟨_, hid rfl⟩
  have ha1 := add_l C0 B1 C1 ([80, 3]) (w2 s) HC0.out HB1.out HC1.out (by simp only [List.length_cons, List.length_nil, w2_len]; omega)
  obtain ⟨B2, HB2⟩ : ∃ C : ByteArray, Hid (C = ⟨(w2 a).toArray⟩) := ⟨_, hid rfl⟩
  obtain ⟨C2, HC2⟩ : ∃ C : ByteArray, Hid (C = ⟨([80, 3] ++ w2 s ++ w2 a).toArray⟩) := ⟨_, hid rfl⟩
  have ha2 := add_l C1 B2 C2 ([80, 3] ++ w2 s) (w2 a) HC1.out HB2.out HC2.out (by simp only [List.length_append, List.length_cons, List.length_nil, w2_len]; omega)
  obtain ⟨B3, HB3⟩ : ∃ C : ByteArray, Hid (C = ⟨(runL l).toArray⟩) := ⟨_, hid rfl⟩
  obtain ⟨C3, HC3⟩ : ∃ C : ByteArray, Hid (C = ⟨([80, 3] ++ w2 s ++ w2 a ++ runL l).toArray⟩) := ⟨_, hid rfl⟩
  have ha3 := add_l C2 B3 C3 ([80, 3] ++ w2 s ++ w2 a) (runL l) HC2.out HB3.out HC3.out (by simp only [List.length_append, List.length_cons, List.length_nil, w2_len]; omega)
  have hz3 : C3.size + 4 ≤ maxLen := by rw [HC3.out, arr_size]; unfold maxLen; simp only [List.length_append, List.length_cons, List.length_nil, w2_len]; omega
  have HZ := hid hz3
  have HRD := hid hr
  clear hm hfit hr hz3
  go_enter Try.func12, Try.ntmps12
  go_upto_region 7 with fail
  have hB0 := hid ((Box.new w ⟨3, n, s, a, l, u, d⟩ (.slice ao L cap)).below (box_below _ (.cells #[.int .u8 80, .int .u8 3] 5)))
  have hb0 := hid (bt (box_below w (.cells (cellsD ⟨3, n, s, a, l, u, d⟩ (.slice ao L cap)) 26)) (box_below _ (.cells #[.int .u8 80, .int .u8 3] 5)))
  generalize ((w.alloc (.cells (cellsD ⟨3, n, s, a, l, u, d⟩ (.slice ao L cap)) 26)).alloc (.cells #[.int .u8 80, .int .u8 3] 5)) = y0 at hB0 hb0 ⊢
  have hS0 := keep_of hB0.out (Below.refl _ y0)
  have g1 : IntKind.u64.wrap (s : Int) = (s : Int) := by rw [IntKind.wrap_u64]; omega
  have g2 : IntKind.u64.wrap (a : Int) = (a : Int) := by rw [IntKind.wrap_u64]; omega
  have g3 : IntKind.u64.wrap (u : Int) = (u : Int) := by rw [IntKind.wrap_u64]; omega
  have HRun := hid (fun W (hb : Below y0.heap.size y0 W) => rrun_c (.slice ao L cap) l W (HRD.out.below (bt hb0.out hb)) hfl)
  rw [← HB3.out] at HRun
  go_region_held3 (fun W => Below y0.heap.size y0 W ∧ W.cell? ⟨w.heap.size, 2, none⟩ = some (.int .u16 (s : Int)) ∧ W.cell? ⟨w.heap.size, 3, none⟩ = some (.int .u16 (a : Int)) ∧ W.cell? ⟨w.heap.size, 4, none⟩ = some (.slice ao L cap) ∧ W.cell? ⟨w.heap.size, 5, none⟩ = some (.int .u32 (u : Int)) ∧ W.cell? ⟨w.heap.size, 6, none⟩ = some (.int .i64 d)) (first | with_reducible assumption | exact keep_of hB0.out (bdrew _ (Below.refl _ _)) | exact keep_of hB0.out (bdrew1 (Below.refl _ _)) | exact keep_of hB0.out (Below.refl _ _))
    (first
    | (go_at_call 31; (with_reducible refine (word2_l s B1 _ hs HB1.out).mono ?_; rintro e y1 ⟨rfl, hy1⟩; have hbb := bt (show Below y0.heap.size y0 _ by first | with_reducible assumption | exact bdrew _ (Below.refl _ _) | exact bdrew1 (Below.refl _ _)) hy1; have hSS := keep_of hB0.out hbb))
    | (go_at_call 31; (with_reducible refine (word2_l a B2 _ ha HB2.out).mono ?_; rintro e y2 ⟨rfl, hy2⟩; have hbb := bt (show Below y0.heap.size y0 _ by first | with_reducible assumption | exact bdrew _ (Below.refl _ _) | exact bdrew1 (Below.refl _ _)) hy2; have hSS := keep_of hB0.out hbb))
    | (go_at_call 32; (with_reducible refine (HRun.out _ (by first | with_reducible assumption | exact bdrew _ (Below.refl _ _) | exact bdrew1 (Below.refl _ _))).mono ?_; rintro e y3 ⟨rfl, hy3⟩; have hbb := bt (show Below y0.heap.size y0 _ by first | with_reducible assumption | exact bdrew _ (Below.refl _ _) | exact bdrew1 (Below.refl _ _)) hy3; have hSS := keep_of hB0.out hbb)))
  all_goals
    go_wp2_with (go_at_call 15; (refine (Sm.rseal_c C3 _ HZ.out).mono ?_; rintro e yz ⟨rfl, hyz⟩))
    go_ret
    exact ⟨ret_rseal (HC3.out.trans (arr_eq (by simp [msgL, bodyL]))), bt (bt hb0.out hbb) hyz⟩

set_option maxRecDepth 100000 in
set_option maxHeartbeats 4000000 in
theorem rpack_k4 (n s a u : Nat) (l : List UInt8) (d : Int) (ao : Option Addr) (L cap : Nat) (w : World) (hr : Rd w (.slice ao L cap) l) (hi : InD ⟨4, n, s, a, l, u, d⟩) (hm : RightD ⟨4, n, s, a, l, u, d⟩) :
    Calls Try.prog 12 #[.agg (cellsD ⟨4, n, s, a, l, u, d⟩ (.slice ao L cap))] w fun e w' => e = .returned (.string (Sm.sealS ⟨(msgL ⟨4, n, s, a, l, u, d⟩).toArray⟩)) ∧ Below w.heap.size w w' := by
  have hfit : fitB l = true := hm.2.1
  have hld : -1000 ≤ d ∧ d ≤ 1000 := hm.2.2.1
  obtain ⟨_, hn, hs, ha, hu, hd⟩ := hi
  dsimp only at hn hs ha hu hd
  have hfl := fit_len hfit
  have hrl := run_len2 l hfl
  have hsl := num_len 1 (sgnN d) (by unfold sgnN; split <;> omega)
  obtain ⟨C0, HC0⟩ : ∃ C : ByteArray, Hid (C = ⟨([80, 4] : List UInt8).toArray⟩) := ⟨_, hid rfl⟩
  have hcv := two_run (w.alloc (.cells (cellsD ⟨4, n, s, a, l, u, d⟩ (.slice ao L cap)) 26)) 80 4 80 4 rfl rfl C0 HC0.out
  rw [show (w.alloc (.cells (cellsD ⟨4, n, s, a, l, u, d⟩ (.slice ao L cap)) 26)).heap.size = w.heap.size + 1 by simp] at hcv
  obtain ⟨B1, HB1⟩ : ∃ C : ByteArray, Hid (C = ⟨(w2 s).toArray⟩) := ⟨_, hid rfl⟩
  obtain ⟨C1, HC1⟩ : ∃ C : ByteArray, Hid (C = ⟨([80, 4] ++ w2 s).toArray⟩) := ⟨_, hid rfl⟩
  have ha1 := add_l C0 B1 C1 ([80, 4]) (w2 s) HC0.out HB1.out HC1.out (by simp only [List.length_cons, List.length_nil, w2_len]; omega)
  obtain ⟨B2, HB2⟩ : ∃ C : ByteArray, Hid (C = ⟨(w4 u).toArray⟩) := ⟨_, hid rfl⟩
  obtain ⟨C2, HC2⟩ : ∃ C : ByteArray, Hid (C = ⟨([80, 4] ++ w2 s ++ w4 u).toArray⟩) := ⟨_, hid rfl⟩
  have ha2 := add_l C1 B2 C2 ([80, 4] ++ w2 s) (w4 u) HC1.out HB2.out HC2.out (by simp only [List.length_append, List.length_cons, List.length_nil, w2_len, w4_len]; omega)
  have hz2 : C2.size + 4 ≤ maxLen := by rw [HC2.out, arr_size]; unfold maxLen; simp only [List.length_append, List.length_cons, List.length_nil, w2_len, w4_len]; omega
  have HZ := hid hz2
  have HRD := hid hr
  clear hm hfit hr hz2
  go_enter Try.func12, Try.ntmps12
  go_upto_region 9 with fail
  have hB0 := hid ((Box.new w ⟨4, n, s, a, l, u, d⟩ (.slice ao L cap)).below (box_below _ (.cells #[.int .u8 80, .int .u8 4] 5)))
  have hb0 := hid (bt (box_below w (.cells (cellsD ⟨4, n, s, a, l, u, d⟩ (.slice ao L cap)) 26)) (box_below _ (.cells #[.int .u8 80, .int .u8 4] 5)))
  generalize ((w.alloc (.cells (cellsD ⟨4, n, s, a, l, u, d⟩ (.slice ao L cap)) 26)).alloc (.cells #[.int .u8 80, .int .u8 4] 5)) = y0 at hB0 hb0 ⊢
  have hS0 := keep_of hB0.out (Below.refl _ y0)
  have g1 : IntKind.u64.wrap (s : Int) = (s : Int) := by rw [IntKind.wrap_u64]; omega
  have g2 : IntKind.u64.wrap (a : Int) = (a : Int) := by rw [IntKind.wrap_u64]; omega
  have g3 : IntKind.u64.wrap (u : Int) = (u : Int) := by rw [IntKind.wrap_u64]; omega
  go_region_held3 (fun W => Below y0.heap.size y0 W ∧ W.cell? ⟨w.heap.size, 2, none⟩ = some (.int .u16 (s : Int)) ∧ W.cell? ⟨w.heap.size, 3, none⟩ = some (.int .u16 (a : Int)) ∧ W.cell? ⟨w.heap.size, 4, none⟩ = some (.slice ao L cap) ∧ W.cell? ⟨w.heap.size, 5, none⟩ = some (.int .u32 (u : Int)) ∧ W.cell? ⟨w.heap.size, 6, none⟩ = some (.int .i64 d)) (first | with_reducible assumption | exact keep_of hB0.out (bdrew _ (Below.refl _ _)) | exact keep_of hB0.out (bdrew1 (Below.refl _ _)) | exact keep_of hB0.out (Below.refl _ _))
    (first
    | (go_at_call 31; (with_reducible refine (word2_l s B1 _ hs HB1.out).mono ?_; rintro e y1 ⟨rfl, hy1⟩; have hbb := bt (show Below y0.heap.size y0 _ by first | with_reducible assumption | exact bdrew _ (Below.refl _ _) | exact bdrew1 (Below.refl _ _)) hy1; have hSS := keep_of hB0.out hbb))
    | (go_at_call 31; (with_reducible refine (word4_l u B2 _ hu HB2.out).mono ?_; rintro e y2 ⟨rfl, hy2⟩; have hbb := bt (show Below y0.heap.size y0 _ by first | with_reducible assumption | exact bdrew _ (Below.refl _ _) | exact bdrew1 (Below.refl _ _)) hy2; have hSS := keep_of hB0.out hbb)))
  all_goals
    go_wp2_with (go_at_call 15; (refine (Sm.rseal_c C2 _ HZ.out).mono ?_; rintro e yz ⟨rfl, hyz⟩))
    go_ret
    exact ⟨ret_rseal (HC2.out.trans (arr_eq (by simp [msgL, bodyL]))), bt (bt hb0.out hbb) hyz⟩

set_option maxRecDepth 100000 in
set_option maxHeartbeats 4000000 in
theorem rpack_k5 (n s a u : Nat) (l : List UInt8) (d : Int) (ao : Option Addr) (L cap : Nat) (w : World) (hr : Rd w (.slice ao L cap) l) (hi : InD ⟨5, n, s, a, l, u, d⟩) (hm : RightD ⟨5, n, s, a, l, u, d⟩) :
    Calls Try.prog 12 #[.agg (cellsD ⟨5, n, s, a, l, u, d⟩ (.slice ao L cap))] w fun e w' => e = .returned (.string (Sm.sealS ⟨(msgL ⟨5, n, s, a, l, u, d⟩).toArray⟩)) ∧ Below w.heap.size w w' := by
  have hfit : fitB l = true := hm.2.1
  have hld : -1000 ≤ d ∧ d ≤ 1000 := hm.2.2.1
  obtain ⟨_, hn, hs, ha, hu, hd⟩ := hi
  dsimp only at hn hs ha hu hd
  have hfl := fit_len hfit
  have hrl := run_len2 l hfl
  have hsl := num_len 1 (sgnN d) (by unfold sgnN; split <;> omega)
  obtain ⟨C0, HC0⟩ : ∃ C : ByteArray, Hid (C = ⟨([80, 5] : List UInt8).toArray⟩) := ⟨_, hid rfl⟩
  have hcv := two_run (w.alloc (.cells (cellsD ⟨5, n, s, a, l, u, d⟩ (.slice ao L cap)) 26)) 80 5 80 5 rfl rfl C0 HC0.out
  rw [show (w.alloc (.cells (cellsD ⟨5, n, s, a, l, u, d⟩ (.slice ao L cap)) 26)).heap.size = w.heap.size + 1 by simp] at hcv
  obtain ⟨B1, HB1⟩ : ∃ C : ByteArray, Hid (C = ⟨(w2 a).toArray⟩) := ⟨_, hid rfl⟩
  obtain ⟨C1, HC1⟩ : ∃ C : ByteArray, Hid (C = ⟨([80, 5] ++ w2 a).toArray⟩) := ⟨_, hid rfl⟩
  have ha1 := add_l C0 B1 C1 ([80, 5]) (w2 a) HC0.out HB1.out HC1.out (by simp only [List.length_cons, List.length_nil, w2_len]; omega)
  have hz1 : C1.size + 4 ≤ maxLen := by rw [HC1.out, arr_size]; unfold maxLen; simp only [List.length_append, List.length_cons, List.length_nil, w2_len]; omega
  have HZ := hid hz1
  have HRD := hid hr
  clear hm hfit hr hz1
  go_enter Try.func12, Try.ntmps12
  go_wp2_with (first
    | (go_at_call 31; (with_reducible refine (word2_l a B1 _ ha HB1.out).mono ?_; rintro e y1 ⟨rfl, hy1⟩))
    | (go_at_call 15; (refine (Sm.rseal_c C1 _ HZ.out).mono ?_; rintro e yz ⟨rfl, hyz⟩)))
  go_ret
  refine ⟨ret_rseal (HC1.out.trans (arr_eq (by simp [msgL, bodyL]))), ?_⟩
  have hb0 := bt (box_below w (.cells (cellsD ⟨5, n, s, a, l, u, d⟩ (.slice ao L cap)) 26)) (box_below _ (.cells #[.int .u8 80, .int .u8 5] 5))
  exact bt (bt hb0 hy1) hyz

set_option maxRecDepth 100000 in
set_option maxHeartbeats 4000000 in
theorem rpack_k6 (n s a u : Nat) (l : List UInt8) (d : Int) (ao : Option Addr) (L cap : Nat) (w : World) (hr : Rd w (.slice ao L cap) l) (hi : InD ⟨6, n, s, a, l, u, d⟩) (hm : RightD ⟨6, n, s, a, l, u, d⟩) :
    Calls Try.prog 12 #[.agg (cellsD ⟨6, n, s, a, l, u, d⟩ (.slice ao L cap))] w fun e w' => e = .returned (.string (Sm.sealS ⟨(msgL ⟨6, n, s, a, l, u, d⟩).toArray⟩)) ∧ Below w.heap.size w w' := by
  have hfit : fitB l = true := hm.2.1
  have hld : -1000 ≤ d ∧ d ≤ 1000 := hm.2.2.1
  obtain ⟨_, hn, hs, ha, hu, hd⟩ := hi
  dsimp only at hn hs ha hu hd
  have hfl := fit_len hfit
  have hrl := run_len2 l hfl
  have hsl := num_len 1 (sgnN d) (by unfold sgnN; split <;> omega)
  obtain ⟨C0, HC0⟩ : ∃ C : ByteArray, Hid (C = ⟨([80, 6] : List UInt8).toArray⟩) := ⟨_, hid rfl⟩
  have hcv := two_run (w.alloc (.cells (cellsD ⟨6, n, s, a, l, u, d⟩ (.slice ao L cap)) 26)) 80 6 80 6 rfl rfl C0 HC0.out
  rw [show (w.alloc (.cells (cellsD ⟨6, n, s, a, l, u, d⟩ (.slice ao L cap)) 26)).heap.size = w.heap.size + 1 by simp] at hcv
  obtain ⟨B1, HB1⟩ : ∃ C : ByteArray, Hid (C = ⟨(w2 s).toArray⟩) := ⟨_, hid rfl⟩
  obtain ⟨C1, HC1⟩ : ∃ C : ByteArray, Hid (C = ⟨([80, 6] ++ w2 s).toArray⟩) := ⟨_, hid rfl⟩
  have ha1 := add_l C0 B1 C1 ([80, 6]) (w2 s) HC0.out HB1.out HC1.out (by simp only [List.length_cons, List.length_nil, w2_len]; omega)
  obtain ⟨B2, HB2⟩ : ∃ C : ByteArray, Hid (C = ⟨(numL (sgnN d)).toArray⟩) := ⟨_, hid rfl⟩
  obtain ⟨C2, HC2⟩ : ∃ C : ByteArray, Hid (C = ⟨([80, 6] ++ w2 s ++ numL (sgnN d)).toArray⟩) := ⟨_, hid rfl⟩
  have ha2 := add_l C1 B2 C2 ([80, 6] ++ w2 s) (numL (sgnN d)) HC1.out HB2.out HC2.out (by simp only [List.length_append, List.length_cons, List.length_nil, w2_len]; omega)
  have hz2 : C2.size + 4 ≤ maxLen := by rw [HC2.out, arr_size]; unfold maxLen; simp only [List.length_append, List.length_cons, List.length_nil, w2_len]; omega
  have HZ := hid hz2
  have HRD := hid hr
  clear hm hfit hr hz2
  go_enter Try.func12, Try.ntmps12
  go_upto_region 13 with fail
  have hB0 := hid ((Box.new w ⟨6, n, s, a, l, u, d⟩ (.slice ao L cap)).below (box_below _ (.cells #[.int .u8 80, .int .u8 6] 5)))
  have hb0 := hid (bt (box_below w (.cells (cellsD ⟨6, n, s, a, l, u, d⟩ (.slice ao L cap)) 26)) (box_below _ (.cells #[.int .u8 80, .int .u8 6] 5)))
  generalize ((w.alloc (.cells (cellsD ⟨6, n, s, a, l, u, d⟩ (.slice ao L cap)) 26)).alloc (.cells #[.int .u8 80, .int .u8 6] 5)) = y0 at hB0 hb0 ⊢
  have hS0 := keep_of hB0.out (Below.refl _ y0)
  have g1 : IntKind.u64.wrap (s : Int) = (s : Int) := by rw [IntKind.wrap_u64]; omega
  have g2 : IntKind.u64.wrap (a : Int) = (a : Int) := by rw [IntKind.wrap_u64]; omega
  have g3 : IntKind.u64.wrap (u : Int) = (u : Int) := by rw [IntKind.wrap_u64]; omega
  have HSg := hid (fun W => rsigned_c d W hd.1 hd.2)
  rw [← HB2.out] at HSg
  go_region_held3 (fun W => Below y0.heap.size y0 W ∧ W.cell? ⟨w.heap.size, 2, none⟩ = some (.int .u16 (s : Int)) ∧ W.cell? ⟨w.heap.size, 3, none⟩ = some (.int .u16 (a : Int)) ∧ W.cell? ⟨w.heap.size, 4, none⟩ = some (.slice ao L cap) ∧ W.cell? ⟨w.heap.size, 5, none⟩ = some (.int .u32 (u : Int)) ∧ W.cell? ⟨w.heap.size, 6, none⟩ = some (.int .i64 d)) (first | with_reducible assumption | exact keep_of hB0.out (bdrew _ (Below.refl _ _)) | exact keep_of hB0.out (bdrew1 (Below.refl _ _)) | exact keep_of hB0.out (Below.refl _ _))
    (first
    | (go_at_call 31; (with_reducible refine (word2_l s B1 _ hs HB1.out).mono ?_; rintro e y1 ⟨rfl, hy1⟩; have hbb := bt (show Below y0.heap.size y0 _ by first | with_reducible assumption | exact bdrew _ (Below.refl _ _) | exact bdrew1 (Below.refl _ _)) hy1; have hSS := keep_of hB0.out hbb))
    | (go_at_call 33; (with_reducible refine (HSg.out _).mono ?_; rintro e y2 ⟨rfl, hy2⟩; have hbb := bt (show Below y0.heap.size y0 _ by first | with_reducible assumption | exact bdrew _ (Below.refl _ _) | exact bdrew1 (Below.refl _ _)) hy2; have hSS := keep_of hB0.out hbb)))
  all_goals
    go_wp2_with (go_at_call 15; (refine (Sm.rseal_c C2 _ HZ.out).mono ?_; rintro e yz ⟨rfl, hyz⟩))
    go_ret
    exact ⟨ret_rseal (HC2.out.trans (arr_eq (by simp [msgL, bodyL]))), bt (bt hb0.out hbb) hyz⟩

set_option maxRecDepth 100000 in
set_option maxHeartbeats 4000000 in
theorem rpack_k7 (n s a u : Nat) (l : List UInt8) (d : Int) (ao : Option Addr) (L cap : Nat) (w : World) (hr : Rd w (.slice ao L cap) l) (hi : InD ⟨7, n, s, a, l, u, d⟩) (hm : RightD ⟨7, n, s, a, l, u, d⟩) :
    Calls Try.prog 12 #[.agg (cellsD ⟨7, n, s, a, l, u, d⟩ (.slice ao L cap))] w fun e w' => e = .returned (.string (Sm.sealS ⟨(msgL ⟨7, n, s, a, l, u, d⟩).toArray⟩)) ∧ Below w.heap.size w w' := by
  have hfit : fitB l = true := hm.2.1
  have hld : -1000 ≤ d ∧ d ≤ 1000 := hm.2.2.1
  obtain ⟨_, hn, hs, ha, hu, hd⟩ := hi
  dsimp only at hn hs ha hu hd
  have hfl := fit_len hfit
  have hrl := run_len2 l hfl
  have hsl := num_len 1 (sgnN d) (by unfold sgnN; split <;> omega)
  obtain ⟨C0, HC0⟩ : ∃ C : ByteArray, Hid (C = ⟨([80, 7] : List UInt8).toArray⟩) := ⟨_, hid rfl⟩
  have hcv := two_run (w.alloc (.cells (cellsD ⟨7, n, s, a, l, u, d⟩ (.slice ao L cap)) 26)) 80 7 80 7 rfl rfl C0 HC0.out
  rw [show (w.alloc (.cells (cellsD ⟨7, n, s, a, l, u, d⟩ (.slice ao L cap)) 26)).heap.size = w.heap.size + 1 by simp] at hcv
  have hz0 : C0.size + 4 ≤ maxLen := by rw [HC0.out, arr_size]; unfold maxLen; simp only [List.length_cons, List.length_nil]; omega
  have HZ := hid hz0
  have HRD := hid hr
  clear hm hfit hr hz0
  go_enter Try.func12, Try.ntmps12
  go_wp2_with (first
    | (go_at_call 15; (refine (Sm.rseal_c C0 _ HZ.out).mono ?_; rintro e yz ⟨rfl, hyz⟩)))
  go_ret
  refine ⟨ret_rseal (HC0.out.trans (arr_eq (by simp [msgL, bodyL]))), ?_⟩
  have hb0 := bt (box_below w (.cells (cellsD ⟨7, n, s, a, l, u, d⟩ (.slice ao L cap)) 26)) (box_below _ (.cells #[.int .u8 80, .int .u8 7] 5))
  exact bt hb0 hyz

theorem rpack_c (v : Value) (m : Dg) (w : World) (h : Holds w v m) (hr : RightD m) :
    Calls Try.prog 12 #[v] w fun e w' => e = .returned (.string (Sm.sealS ⟨(msgL m).toArray⟩)) ∧ Below w.heap.size w w' := by
  obtain ⟨ao, L, cap, rfl, hrd, hin⟩ := h
  obtain ⟨k, n, s, a, l, u, d⟩ := m
  have hk : k = 1 ∨ k = 2 ∨ k = 3 ∨ k = 4 ∨ k = 5 ∨ k = 6 ∨ k = 7 := by have := hr.1; dsimp only at this; omega
  rcases hk with rfl | rfl | rfl | rfl | rfl | rfl | rfl
  · exact rpack_k1 n s a u l d ao L cap w hrd hin hr
  · exact rpack_k2 n s a u l d ao L cap w hrd hin hr
  · exact rpack_k3 n s a u l d ao L cap w hrd hin hr
  · exact rpack_k4 n s a u l d ao L cap w hrd hin hr
  · exact rpack_k5 n s a u l d ao L cap w hrd hin hr
  · exact rpack_k6 n s a u l d ao L cap w hrd hin hr
  · exact rpack_k7 n s a u l d ao L cap w hrd hin hr

end Go.Proofs.Ytnjmmmclelmeiaa.Wr
