/- One act on both cables (does), kind by kind: they answer alike, and are left alike. -/
import Derived.Test.YtfifoikphhjomaaCbDoes
namespace Go.Proofs.Ytfifoikphhjomaa.Cb
open Go.RowKit Go.Proofs.Ytfifoikphhjomaa.Rg Go.ChangeShapes Go.WideShapes Go.Deep
set_option linter.unusedVariables false
set_option linter.unusedSimpArgs false

set_option maxRecDepth 100000 in
set_option maxHeartbeats 1000000 in
theorem does1 (w₀ w : World) (b m size : Nat) (st : St) (dd i : Int) (s : ByteArray) (at_ by_ : Int) (h : Both w₀ w b m size st st) (ok : Ok size st) (hs : size ≤ 64) (hl : total st ≤ 90000) (hb : 0 ≤ by_ ∧ by_ ≤ 255) :
    Calls Try.prog 8 #[.pointer (some ⟨b, 0, none⟩), .pointer (some ⟨m, 0, none⟩), .agg #[.int .i64 1, .int .i64 dd, .int .i64 i, .string s, .int .i64 at_, .int .u8 by_]] w fun e w' => e = .returned (.bool true) ∧ Both w₀ w' b m size (playSt size st ⟨1, dd, i, s, at_, by_⟩) (playSt size st ⟨1, dd, i, s, at_, by_⟩) := by
  have ha : ActAt (w.alloc (.cells #[.int .i64 1, .int .i64 dd, .int .i64 i, .string s, .int .i64 at_, .int .u8 by_] 34)) w.heap.size ⟨1, dd, i, s, at_, by_⟩ := ActAt.new w ⟨1, dd, i, s, at_, by_⟩
  have h1 := h.keep ((Below.refl _ w).alloc (Nat.le_refl _) (.cells #[.int .i64 1, .int .i64 dd, .int .i64 i, .string s, .int .i64 at_, .int .u8 by_] 34))
  have hlost : st.lost ≤ 90000 := Nat.le_trans (lost_total st) hl
  have E : Hid (playSt size st ⟨1, dd, i, s, at_, by_⟩ = sendSt size st dd s) := by show _ = _; simp [playSt]
  rw [E.out]
  go_enter Try.func8, Try.ntmps8
  go_upto_region 1 with (fail)
  generalize w.alloc (.cells #[.int .i64 1, .int .i64 dd, .int .i64 i, .string s, .int .i64 at_, .int .u8 by_] 34) = w1 at ha h1 ⊢
  generalize w.heap.size = xb at ha ⊢
  obtain ⟨a0, a1, a2, a3, a4, a5⟩ := ha.cell
  dsimp only at a0 a1 a2 a3 a4 a5
  clear h
  go_wp2_with fail
  refine (send_both w₀ _ b m size st st dd s h1 ok hs (by omega)).mono ?_
  rintro e w2 ⟨rfl, h2, o2⟩
  clear a0 a1 a2 a3 a4 a5
  have ha2 := ha.keep o2
  obtain ⟨a0, a1, a2, a3, a4, a5⟩ := ha2.cell
  dsimp only at a0 a1 a2 a3 a4 a5
  clear h1
  go_wp2_with fail
  refine (rsend_both w₀ _ b m size _ st dd s h2 ok hs (by omega)).mono ?_
  rintro e w3 ⟨rfl, h3, o3⟩
  go_wp2_with fail
  go_ret
  exact ⟨rfl, h3⟩

set_option maxRecDepth 100000 in
set_option maxHeartbeats 1000000 in
theorem does2 (w₀ w : World) (b m size : Nat) (st : St) (dd i : Int) (s : ByteArray) (at_ by_ : Int) (h : Both w₀ w b m size st st) (ok : Ok size st) (hs : size ≤ 64) (hl : total st ≤ 90000) (hb : 0 ≤ by_ ∧ by_ ≤ 255) :
    Calls Try.prog 8 #[.pointer (some ⟨b, 0, none⟩), .pointer (some ⟨m, 0, none⟩), .agg #[.int .i64 2, .int .i64 dd, .int .i64 i, .string s, .int .i64 at_, .int .u8 by_]] w fun e w' => e = .returned (.bool true) ∧ Both w₀ w' b m size (playSt size st ⟨2, dd, i, s, at_, by_⟩) (playSt size st ⟨2, dd, i, s, at_, by_⟩) := by
  have ha : ActAt (w.alloc (.cells #[.int .i64 2, .int .i64 dd, .int .i64 i, .string s, .int .i64 at_, .int .u8 by_] 34)) w.heap.size ⟨2, dd, i, s, at_, by_⟩ := ActAt.new w ⟨2, dd, i, s, at_, by_⟩
  have h1 := h.keep ((Below.refl _ w).alloc (Nat.le_refl _) (.cells #[.int .i64 2, .int .i64 dd, .int .i64 i, .string s, .int .i64 at_, .int .u8 by_] 34))
  have hlost : st.lost ≤ 90000 := Nat.le_trans (lost_total st) hl
  have E : Hid (playSt size st ⟨2, dd, i, s, at_, by_⟩ = takeSt st dd i) := by show _ = _; simp [playSt]
  rw [E.out]
  go_enter Try.func8, Try.ntmps8
  go_upto_region 1 with (fail)
  generalize w.alloc (.cells #[.int .i64 2, .int .i64 dd, .int .i64 i, .string s, .int .i64 at_, .int .u8 by_] 34) = w1 at ha h1 ⊢
  generalize w.heap.size = xb at ha ⊢
  obtain ⟨a0, a1, a2, a3, a4, a5⟩ := ha.cell
  dsimp only at a0 a1 a2 a3 a4 a5
  clear h
  go_wp2_with fail
  refine (take_both w₀ _ b m size st st dd i h1 ok hs).mono ?_
  rintro e w2 ⟨rfl, h2, o2⟩
  clear a0 a1 a2 a3 a4 a5
  have ha2 := ha.keep o2
  obtain ⟨a0, a1, a2, a3, a4, a5⟩ := ha2.cell
  dsimp only at a0 a1 a2 a3 a4 a5
  clear h1
  go_wp2_with fail
  refine (rtake_both w₀ _ b m size _ st dd i h2 ok hs).mono ?_
  rintro e w3 ⟨rfl, h3, o3⟩
  go_wp2_with fail
  go_ret
  exact ⟨rfl, h3⟩

set_option maxRecDepth 100000 in
set_option maxHeartbeats 1000000 in
theorem does3 (w₀ w : World) (b m size : Nat) (st : St) (dd i : Int) (s : ByteArray) (at_ by_ : Int) (h : Both w₀ w b m size st st) (ok : Ok size st) (hs : size ≤ 64) (hl : total st ≤ 90000) (hb : 0 ≤ by_ ∧ by_ ≤ 255) :
    Calls Try.prog 8 #[.pointer (some ⟨b, 0, none⟩), .pointer (some ⟨m, 0, none⟩), .agg #[.int .i64 3, .int .i64 dd, .int .i64 i, .string s, .int .i64 at_, .int .u8 by_]] w fun e w' => e = .returned (.bool true) ∧ Both w₀ w' b m size (playSt size st ⟨3, dd, i, s, at_, by_⟩) (playSt size st ⟨3, dd, i, s, at_, by_⟩) := by
  have ha : ActAt (w.alloc (.cells #[.int .i64 3, .int .i64 dd, .int .i64 i, .string s, .int .i64 at_, .int .u8 by_] 34)) w.heap.size ⟨3, dd, i, s, at_, by_⟩ := ActAt.new w ⟨3, dd, i, s, at_, by_⟩
  have h1 := h.keep ((Below.refl _ w).alloc (Nat.le_refl _) (.cells #[.int .i64 3, .int .i64 dd, .int .i64 i, .string s, .int .i64 at_, .int .u8 by_] 34))
  have hlost : st.lost ≤ 90000 := Nat.le_trans (lost_total st) hl
  have E : Hid (playSt size st ⟨3, dd, i, s, at_, by_⟩ = st) := by show _ = _; simp [playSt]
  rw [E.out]
  go_enter Try.func8, Try.ntmps8
  go_upto_region 1 with (fail)
  generalize w.alloc (.cells #[.int .i64 3, .int .i64 dd, .int .i64 i, .string s, .int .i64 at_, .int .u8 by_] 34) = w1 at ha h1 ⊢
  generalize w.heap.size = xb at ha ⊢
  obtain ⟨a0, a1, a2, a3, a4, a5⟩ := ha.cell
  dsimp only at a0 a1 a2 a3 a4 a5
  clear h
  go_wp2_with fail
  refine (copy_both w₀ _ b m size st st dd i h1 ok hs).mono ?_
  rintro e w2 ⟨rfl, h2, o2⟩
  clear a0 a1 a2 a3 a4 a5
  have ha2 := ha.keep o2
  obtain ⟨a0, a1, a2, a3, a4, a5⟩ := ha2.cell
  dsimp only at a0 a1 a2 a3 a4 a5
  clear h1
  go_wp2_with fail
  refine (rcopy_both w₀ _ b m size _ st dd i h2).mono ?_
  rintro e w3 ⟨rfl, rfl⟩
  go_wp2_with fail
  go_ret
  exact ⟨rfl, h2⟩

set_option maxRecDepth 100000 in
set_option maxHeartbeats 1000000 in
theorem does4 (w₀ w : World) (b m size : Nat) (st : St) (dd i : Int) (s : ByteArray) (at_ by_ : Int) (h : Both w₀ w b m size st st) (ok : Ok size st) (hs : size ≤ 64) (hl : total st ≤ 90000) (hb : 0 ≤ by_ ∧ by_ ≤ 255) :
    Calls Try.prog 8 #[.pointer (some ⟨b, 0, none⟩), .pointer (some ⟨m, 0, none⟩), .agg #[.int .i64 4, .int .i64 dd, .int .i64 i, .string s, .int .i64 at_, .int .u8 by_]] w fun e w' => e = .returned (.bool true) ∧ Both w₀ w' b m size (playSt size st ⟨4, dd, i, s, at_, by_⟩) (playSt size st ⟨4, dd, i, s, at_, by_⟩) := by
  have ha : ActAt (w.alloc (.cells #[.int .i64 4, .int .i64 dd, .int .i64 i, .string s, .int .i64 at_, .int .u8 by_] 34)) w.heap.size ⟨4, dd, i, s, at_, by_⟩ := ActAt.new w ⟨4, dd, i, s, at_, by_⟩
  have h1 := h.keep ((Below.refl _ w).alloc (Nat.le_refl _) (.cells #[.int .i64 4, .int .i64 dd, .int .i64 i, .string s, .int .i64 at_, .int .u8 by_] 34))
  have hlost : st.lost ≤ 90000 := Nat.le_trans (lost_total st) hl
  have E : Hid (playSt size st ⟨4, dd, i, s, at_, by_⟩ = dropSt st dd i) := by show _ = _; simp [playSt]
  rw [E.out]
  have D := hid (drop_take (st := st) (dd := dd) (i := i))
  have lt : (takeSt st dd i).lost = st.lost := rfl
  by_cases hB : inB (flyL st.L dd).length i = true
  · have HB := hid hB
    rw [if_pos hB] at D
    clear hB
    go_enter Try.func8, Try.ntmps8
    go_upto_region 1 with (fail)
    generalize w.alloc (.cells #[.int .i64 4, .int .i64 dd, .int .i64 i, .string s, .int .i64 at_, .int .u8 by_] 34) = w1 at ha h1 ⊢
    generalize w.heap.size = xb at ha ⊢
    obtain ⟨a0, a1, a2, a3, a4, a5⟩ := ha.cell
    dsimp only at a0 a1 a2 a3 a4 a5
    clear h
    go_wp2_with fail
    refine (rtake_both w₀ _ b m size st st dd i h1 ok hs).mono ?_
    rintro e w2 ⟨rfl, h2, o2⟩
    rw [HB.out]
    clear a0 a1 a2 a3 a4 a5
    obtain ⟨m3, mf, -⟩ := h2.cells
    have mf3 := mf 3
    rw [lt] at m3
    have h30 := count_both w₀ w2 b m size st (takeSt st dd i) h2 (st.lost + 1)
    rw [show ((st.lost + 1 : Nat) : Int) = (st.lost : Int) + 1 by omega] at h30
    obtain ⟨h3, o3⟩ := h30
    have ha2 := (ha.keep o2).keep o3
    obtain ⟨a0, a1, a2, a3, a4, a5⟩ := ha2.cell
    dsimp only at a0 a1 a2 a3 a4 a5
    clear h1 mf
    go_upto_region 18 with (fail)
    clear m3 mf3
    generalize w2.setCell ⟨m, 3, none⟩ (.int .i64 ((st.lost : Int) + 1)) = w3 at *
    go_wp2_with fail
    refine (drop_both w₀ _ b m size st _ dd i h3 ok hs (by omega)).mono ?_
    rintro e w4 ⟨rfl, h4, o4⟩
    rw [HB.out]
    go_wp2_with fail
    go_ret
    refine ⟨rfl, ?_⟩
    have e4 := D.out
    rw [lt] at e4
    rw [← e4] at h4
    exact h4
  · have hB' : inB (flyL st.L dd).length i = false := by simpa using hB
    have HB := hid hB'
    have e1 : dropSt st dd i = takeSt st dd i := by rw [dropSt, if_neg hB, takeSt, takeF, if_neg hB]
    have E1 := hid e1
    clear hB hB' D e1
    go_enter Try.func8, Try.ntmps8
    go_upto_region 1 with (fail)
    generalize w.alloc (.cells #[.int .i64 4, .int .i64 dd, .int .i64 i, .string s, .int .i64 at_, .int .u8 by_] 34) = w1 at ha h1 ⊢
    generalize w.heap.size = xb at ha ⊢
    obtain ⟨a0, a1, a2, a3, a4, a5⟩ := ha.cell
    dsimp only at a0 a1 a2 a3 a4 a5
    clear h
    go_wp2_with fail
    refine (rtake_both w₀ _ b m size st st dd i h1 ok hs).mono ?_
    rintro e w2 ⟨rfl, h2, o2⟩
    rw [HB.out]
    clear a0 a1 a2 a3 a4 a5
    have ha2 := ha.keep o2
    obtain ⟨a0, a1, a2, a3, a4, a5⟩ := ha2.cell
    dsimp only at a0 a1 a2 a3 a4 a5
    clear h1
    go_wp2_with fail
    refine (drop_both w₀ _ b m size st _ dd i h2 ok hs (by omega)).mono ?_
    rintro e w4 ⟨rfl, h4, o4⟩
    rw [HB.out]
    go_wp2_with fail
    go_ret
    refine ⟨rfl, ?_⟩
    have e4 := E1.out
    rw [← e4] at h4
    exact h4

set_option maxRecDepth 100000 in
set_option maxHeartbeats 1000000 in
theorem does5 (w₀ w : World) (b m size : Nat) (st : St) (dd i : Int) (s : ByteArray) (at_ by_ : Int) (h : Both w₀ w b m size st st) (ok : Ok size st) (hs : size ≤ 64) (hl : total st ≤ 90000) (hb : 0 ≤ by_ ∧ by_ ≤ 255) :
    Calls Try.prog 8 #[.pointer (some ⟨b, 0, none⟩), .pointer (some ⟨m, 0, none⟩), .agg #[.int .i64 5, .int .i64 dd, .int .i64 i, .string s, .int .i64 at_, .int .u8 by_]] w fun e w' => e = .returned (.bool true) ∧ Both w₀ w' b m size (playSt size st ⟨5, dd, i, s, at_, by_⟩) (playSt size st ⟨5, dd, i, s, at_, by_⟩) := by
  have ha : ActAt (w.alloc (.cells #[.int .i64 5, .int .i64 dd, .int .i64 i, .string s, .int .i64 at_, .int .u8 by_] 34)) w.heap.size ⟨5, dd, i, s, at_, by_⟩ := ActAt.new w ⟨5, dd, i, s, at_, by_⟩
  have h1 := h.keep ((Below.refl _ w).alloc (Nat.le_refl _) (.cells #[.int .i64 5, .int .i64 dd, .int .i64 i, .string s, .int .i64 at_, .int .u8 by_] 34))
  have hlost : st.lost ≤ 90000 := Nat.le_trans (lost_total st) hl
  have E : Hid (playSt size st ⟨5, dd, i, s, at_, by_⟩ = takeSt st dd i) := by show _ = _; simp [playSt]
  rw [E.out]
  by_cases hB : inB (flyL st.L dd).length i = true
  · have HB := hid hB
    have hf := ok.fly hB
    have EO : Hid (outS st.L dd i at_ by_ = spoilS (atS (flyL st.L dd) i) at_ by_) := by show _ = _; rw [outS, if_pos hB]
    clear hB
    go_enter Try.func8, Try.ntmps8
    go_upto_region 1 with (fail)
    generalize w.alloc (.cells #[.int .i64 5, .int .i64 dd, .int .i64 i, .string s, .int .i64 at_, .int .u8 by_] 34) = w1 at ha h1 ⊢
    generalize w.heap.size = xb at ha ⊢
    obtain ⟨a0, a1, a2, a3, a4, a5⟩ := ha.cell
    dsimp only at a0 a1 a2 a3 a4 a5
    clear h
    go_wp2_with fail
    refine (spoil_both w₀ _ b m size st st dd i at_ by_ h1 ok hs hb).mono ?_
    rintro e w2 ⟨rfl, h2, o2⟩
    rw [EO.out, HB.out]
    clear a0 a1 a2 a3 a4 a5
    have ha2 := ha.keep o2
    obtain ⟨a0, a1, a2, a3, a4, a5⟩ := ha2.cell
    dsimp only at a0 a1 a2 a3 a4 a5
    clear h1
    go_wp2_with fail
    refine (rtake_both w₀ _ b m size _ st dd i h2 ok hs).mono ?_
    rintro e w3 ⟨rfl, h3, o3⟩
    rw [HB.out]
    clear a0 a1 a2 a3 a4 a5
    have ha3 := ha2.keep o3
    obtain ⟨a0, a1, a2, a3, a4, a5⟩ := ha3.cell
    dsimp only at a0 a1 a2 a3 a4 a5
    clear h2
    go_wp2_with fail
    refine (spoilt_c _ at_ by_ _ hf.1 (by omega) hb).mono ?_
    rintro e w4 ⟨rfl, hB4⟩
    go_wp2_with fail
    go_ret
    exact ⟨rfl, h3.keep hB4⟩
  · have hB' : inB (flyL st.L dd).length i = false := by simpa using hB
    have HB := hid hB'
    have EO : Hid (outS st.L dd i at_ by_ = ⟨#[]⟩) := by show _ = _; rw [outS, if_neg hB]
    have EA : Hid (atS (flyL st.L dd) i = ⟨#[]⟩) := atS_no hB'
    clear hB hB'
    go_enter Try.func8, Try.ntmps8
    go_upto_region 1 with (fail)
    generalize w.alloc (.cells #[.int .i64 5, .int .i64 dd, .int .i64 i, .string s, .int .i64 at_, .int .u8 by_] 34) = w1 at ha h1 ⊢
    generalize w.heap.size = xb at ha ⊢
    obtain ⟨a0, a1, a2, a3, a4, a5⟩ := ha.cell
    dsimp only at a0 a1 a2 a3 a4 a5
    clear h
    go_wp2_with fail
    refine (spoil_both w₀ _ b m size st st dd i at_ by_ h1 ok hs hb).mono ?_
    rintro e w2 ⟨rfl, h2, o2⟩
    rw [EO.out, HB.out]
    clear a0 a1 a2 a3 a4 a5
    have ha2 := ha.keep o2
    obtain ⟨a0, a1, a2, a3, a4, a5⟩ := ha2.cell
    dsimp only at a0 a1 a2 a3 a4 a5
    clear h1
    go_wp2_with fail
    refine (rtake_both w₀ _ b m size _ st dd i h2 ok hs).mono ?_
    rintro e w3 ⟨rfl, h3, o3⟩
    rw [HB.out, EA.out]
    go_wp2_with fail
    go_ret
    exact ⟨rfl, h3⟩

set_option maxRecDepth 100000 in
set_option maxHeartbeats 1000000 in
theorem does6 (w₀ w : World) (b m size : Nat) (st : St) (dd i : Int) (s : ByteArray) (at_ by_ : Int) (h : Both w₀ w b m size st st) (ok : Ok size st) (hs : size ≤ 64) (hl : total st ≤ 90000) (hb : 0 ≤ by_ ∧ by_ ≤ 255) :
    Calls Try.prog 8 #[.pointer (some ⟨b, 0, none⟩), .pointer (some ⟨m, 0, none⟩), .agg #[.int .i64 6, .int .i64 dd, .int .i64 i, .string s, .int .i64 at_, .int .u8 by_]] w fun e w' => e = .returned (.bool true) ∧ Both w₀ w' b m size (playSt size st ⟨6, dd, i, s, at_, by_⟩) (playSt size st ⟨6, dd, i, s, at_, by_⟩) := by
  have ha : ActAt (w.alloc (.cells #[.int .i64 6, .int .i64 dd, .int .i64 i, .string s, .int .i64 at_, .int .u8 by_] 34)) w.heap.size ⟨6, dd, i, s, at_, by_⟩ := ActAt.new w ⟨6, dd, i, s, at_, by_⟩
  have h1 := h.keep ((Below.refl _ w).alloc (Nat.le_refl _) (.cells #[.int .i64 6, .int .i64 dd, .int .i64 i, .string s, .int .i64 at_, .int .u8 by_] 34))
  have hlost : st.lost ≤ 90000 := Nat.le_trans (lost_total st) hl
  have E : Hid (playSt size st ⟨6, dd, i, s, at_, by_⟩ = cutSt st) := by show _ = _; simp [playSt]
  rw [E.out]
  have hn0 : (st.L 0).length ≤ 64 := Nat.le_trans (ok.len 0 (by omega)) hs
  have hn1 : (st.L 1).length ≤ 64 := Nat.le_trans (ok.len 1 (by omega)) hs
  go_enter Try.func8, Try.ntmps8
  go_upto_region 1 with (fail)
  generalize w.alloc (.cells #[.int .i64 6, .int .i64 dd, .int .i64 i, .string s, .int .i64 at_, .int .u8 by_] 34) = w1 at ha h1 ⊢
  generalize w.heap.size = xb at ha ⊢
  obtain ⟨a0, a1, a2, a3, a4, a5⟩ := ha.cell
  dsimp only at a0 a1 a2 a3 a4 a5
  clear h
  go_upto_region 26 with (fail)
  obtain ⟨m3, mf, q0, c0, q1, c1, m1, m2⟩ := h1.cells
  have hw : IntKind.i64.wrap (((st.L 0).length : Int) + ((st.L 1).length : Int)) = ((st.L 0).length : Int) + ((st.L 1).length : Int) := IntWalk.i64_in _ (by omega)
  go_quiet (fail)
  have h2 := h1.drewN nq
  clear m1 m2 m3 mf hw
  obtain ⟨m3, mf, q0, c0, q1, c1, m1, m2⟩ := h2.cells
  generalize w1.drewN nq = w2 at *
  have mf1 := mf 1
  have mf2 := mf 2
  obtain ⟨h3, o3⟩ := clear_both w₀ w2 b m size st st h2
  go_upto_region 28 with (fail)
  clear mf1 mf2 m1 m2 m3 mf
  generalize (w2.setCell ⟨m, 1, none⟩ (.slice none 0 0)).setCell ⟨m, 2, none⟩ (.slice none 0 0) = w3 at *
  obtain ⟨m3, mf, -⟩ := h3.cells
  have mf3 := mf 3
  have h40 := count_both w₀ w3 b m size st _ h3 (st.lost + ((st.L 0).length + (st.L 1).length))
  rw [show ((st.lost + ((st.L 0).length + (st.L 1).length) : Nat) : Int) = (st.lost : Int) + (((st.L 0).length : Int) + ((st.L 1).length : Int)) by omega] at h40
  obtain ⟨h4, o4⟩ := h40
  have hw : IntKind.i64.wrap ((st.lost : Int) + (((st.L 0).length : Int) + ((st.L 1).length : Int))) = (st.lost : Int) + (((st.L 0).length : Int) + ((st.L 1).length : Int)) := IntWalk.i64_in _ (by omega)
  go_upto_region 29 with (fail)
  clear m3 mf3 mf hw
  generalize w3.setCell ⟨m, 3, none⟩ (.int .i64 ((st.lost : Int) + (((st.L 0).length : Int) + ((st.L 1).length : Int)))) = w4 at *
  go_wp2_with fail
  refine (cut_both w₀ _ b m size st _ h4 ok hs (by omega)).mono ?_
  rintro e w5 ⟨rfl, h5, o5⟩
  go_wp2_with fail
  go_ret
  exact ⟨rfl, h5⟩

set_option maxRecDepth 100000 in
set_option maxHeartbeats 1000000 in
theorem does0 (w₀ w : World) (b m size : Nat) (st : St) (kd : Int) (dd i : Int) (s : ByteArray) (at_ by_ : Int) (h : Both w₀ w b m size st st) (ok : Ok size st) (hs : size ≤ 64) (hl : total st ≤ 90000) (hb : 0 ≤ by_ ∧ by_ ≤ 255) (k1 : kd ≠ 1) (k2 : kd ≠ 2) (k3 : kd ≠ 3) (k4 : kd ≠ 4) (k5 : kd ≠ 5) (k6 : kd ≠ 6) :
    Calls Try.prog 8 #[.pointer (some ⟨b, 0, none⟩), .pointer (some ⟨m, 0, none⟩), .agg #[.int .i64 kd, .int .i64 dd, .int .i64 i, .string s, .int .i64 at_, .int .u8 by_]] w fun e w' => e = .returned (.bool true) ∧ Both w₀ w' b m size (playSt size st ⟨kd, dd, i, s, at_, by_⟩) (playSt size st ⟨kd, dd, i, s, at_, by_⟩) := by
  have ha : ActAt (w.alloc (.cells #[.int .i64 kd, .int .i64 dd, .int .i64 i, .string s, .int .i64 at_, .int .u8 by_] 34)) w.heap.size ⟨kd, dd, i, s, at_, by_⟩ := ActAt.new w ⟨kd, dd, i, s, at_, by_⟩
  have h1 := h.keep ((Below.refl _ w).alloc (Nat.le_refl _) (.cells #[.int .i64 kd, .int .i64 dd, .int .i64 i, .string s, .int .i64 at_, .int .u8 by_] 34))
  have hlost : st.lost ≤ 90000 := Nat.le_trans (lost_total st) hl
  have E : Hid (playSt size st ⟨kd, dd, i, s, at_, by_⟩ = st) := by show _ = _; simp [playSt, k1, k2, k3, k4, k5, k6]
  rw [E.out]
  have e1 : (kd == 1) = false := by simpa using k1
  have e2 : (kd == 2) = false := by simpa using k2
  have e3 : (kd == 3) = false := by simpa using k3
  have e4 : (kd == 4) = false := by simpa using k4
  have e5 : (kd == 5) = false := by simpa using k5
  have e6 : (kd == 6) = false := by simpa using k6
  clear k1 k2 k3 k4 k5 k6
  go_enter Try.func8, Try.ntmps8
  go_upto_region 1 with (fail)
  generalize w.alloc (.cells #[.int .i64 kd, .int .i64 dd, .int .i64 i, .string s, .int .i64 at_, .int .u8 by_] 34) = w1 at ha h1 ⊢
  generalize w.heap.size = xb at ha ⊢
  obtain ⟨a0, a1, a2, a3, a4, a5⟩ := ha.cell
  dsimp only at a0 a1 a2 a3 a4 a5
  clear h
  go_wp2_with fail
  go_ret
  exact ⟨rfl, h1⟩

theorem does_c (w₀ w : World) (b m size : Nat) (st : St) (x : Ac) (h : Both w₀ w b m size st st) (ok : Ok size st) (hs : size ≤ 64) (hl : total st ≤ 90000) (hb : 0 ≤ x.by_ ∧ x.by_ ≤ 255) :
    Calls Try.prog 8 #[.pointer (some ⟨b, 0, none⟩), .pointer (some ⟨m, 0, none⟩), .agg #[.int .i64 x.kd, .int .i64 x.dd, .int .i64 x.i, .string x.s, .int .i64 x.at_, .int .u8 x.by_]] w fun e w' => e = .returned (.bool true) ∧ Both w₀ w' b m size (playSt size st x) (playSt size st x) := by
  obtain ⟨kd, dd, i, s, at_, by_⟩ := x
  dsimp only at hb ⊢
  by_cases k1 : kd = 1
  · subst k1; exact does1 w₀ w b m size st dd i s at_ by_ h ok hs hl hb
  by_cases k2 : kd = 2
  · subst k2; exact does2 w₀ w b m size st dd i s at_ by_ h ok hs hl hb
  by_cases k3 : kd = 3
  · subst k3; exact does3 w₀ w b m size st dd i s at_ by_ h ok hs hl hb
  by_cases k4 : kd = 4
  · subst k4; exact does4 w₀ w b m size st dd i s at_ by_ h ok hs hl hb
  by_cases k5 : kd = 5
  · subst k5; exact does5 w₀ w b m size st dd i s at_ by_ h ok hs hl hb
  by_cases k6 : kd = 6
  · subst k6; exact does6 w₀ w b m size st dd i s at_ by_ h ok hs hl hb
  exact does0 w₀ w b m size st kd dd i s at_ by_ h ok hs hl hb k1 k2 k3 k4 k5 k6

end Go.Proofs.Ytfifoikphhjomaa.Cb
