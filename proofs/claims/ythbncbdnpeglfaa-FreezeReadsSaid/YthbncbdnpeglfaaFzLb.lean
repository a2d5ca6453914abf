/- The walk of FreezeReads (layer 13, freeze). -/
import Derived.Test.YthbncbdnpeglfaaFzLa
import Derived.Test.YthbncbdnpeglfaaFzRu
namespace Go.Proofs.Ythbncbdnpeglfaa.Fz
open Go.RowKit
open Go.Proofs.Ythbncbdnpeglfaa.Ev (At)
open Go.Proofs.Ythbncbdnpeglfaa.Gm (hid Pl Bu St plC plA buC buA stC stV zeroP zeroB zeroS fresh0 fresh1 beginS plS setP shS setS rightS takeW wpList_load_at wpList_store_at wp_store_at at_row at_row_far below_row rright_c rstart_c eqS neqS)
open Go.Proofs.Ythbncbdnpeglfaa.Pk (numL)
set_option linter.unusedVariables false

set_option maxRecDepth 100000 in
theorem reads_long (s : ByteArray) (w : World) (hs : s.size ≤ 9223372036854775807) (h : 1000 < s.size) :
    Calls Try.prog 4 #[.string s] w fun e w' => e = .returned (.bool true) ∧ Below w.heap.size w w' := by
  go_enter Try.func4, Try.ntmps4
  go_wp2_with (go_at_call 6; ((with_reducible refine (awake_c _).mono ?_); rintro e w1 ⟨rfl, g1⟩))
  go_ret
  exact ⟨rfl, g1⟩

set_option maxRecDepth 100000 in
set_option maxHeartbeats 4000000 in
theorem reads_short (σ : List UInt8) (w : World) (h : σ.length ≤ 1000) :
    Calls Try.prog 4 #[.string ⟨σ.toArray⟩] w fun e w' => e = .returned (.bool true) ∧ Below w.heap.size w w' := by
  have HUn := fun W => unpack_c σ W (by omega)
  have HRu := fun W => runpack_c σ W h
  have hlen : ((⟨σ.toArray⟩ : ByteArray)).size ≤ 1000 := by rw [str_size]; exact h
  cases hO : unpR σ with
  | none =>
    rw [unpV_none hO] at HUn
    rw [runp_none hO] at HRu
    have hq : ∀ W : World, (binOp .neq 33 (.agg (stC zeroS).toArray) (.agg (stC zeroS).toArray)).run Try.prog W = .ok (.bool false) W := fun W => by
      have := neqS zeroS zeroS W
      rw [decide_eq_true rfl] at this
      exact this
    generalize (⟨σ.toArray⟩ : ByteArray) = s at HUn HRu hlen ⊢
    clear hO
    go_enter Try.func4, Try.ntmps4
    go_upto_region 6 with (first
      | (go_at_call 6; ((with_reducible refine (awake_c _).mono ?_); rintro e w1 ⟨rfl, g1⟩; have HB1 := hid g1))
      | (go_at_call 10; ((with_reducible refine (HUn _).mono ?_); rintro e w2 ⟨rfl, g2⟩; have HB2 := hid (Ev.bt HB1.out g2)))
      | ((with_reducible show wpList _ _ _ _ _ _); refine wpList_store_at rfl 33 _ _ rfl w2.heap.size 0 (stC zeroS) rfl rfl 33 _ (At.new w2 (stC zeroS).toArray 33) (by kernel_rfl) (by show 60 ≤ 60; decide) rfl ?_))
    generalize hW : World.setRow _ _ _ = w3
    have HX3 : Hid (At w3 w2.heap.size (stC zeroS).toArray 33) := hid (by rw [← hW]; exact at_row (At.new w2 (stC zeroS).toArray 33) _)
    have HB3 : Hid (Below w.heap.size w w3) := hid (by rw [← hW]; exact below_row (Ev.bt HB2.out (Ev.bal (Ev.br w2) (.cells (stC zeroS).toArray 33))) HB2.out.size _)
    clear hW
    generalize w2.heap.size = b3 at HX3 ⊢
    go_upto_region 7 with (first
      | (go_at_call 13; ((with_reducible refine (HRu _).mono ?_); rintro e w4 ⟨rfl, g4⟩; have HB4 := hid (Ev.bt HB3.out g4); have HX4 := hid (HX3.out.below g4)))
      | ((with_reducible show wpList _ _ _ _ _ _); refine wpList_store_at rfl 33 _ _ rfl w4.heap.size 0 (stC zeroS) rfl rfl 33 _ (At.new w4 (stC zeroS).toArray 33) (by kernel_rfl) (by show 60 ≤ 60; decide) rfl ?_))
    generalize hW : World.setRow _ _ _ = w5
    have HX5 : Hid (At w5 b3 (stC zeroS).toArray 33) := hid (by rw [← hW]; exact at_row_far (HX4.out.more _) (Nat.ne_of_lt (at_lt HX4.out)) _)
    have HY5 : Hid (At w5 w4.heap.size (stC zeroS).toArray 33) := hid (by rw [← hW]; exact at_row (At.new w4 (stC zeroS).toArray 33) _)
    have HB5 : Hid (Below w.heap.size w w5) := hid (by rw [← hW]; exact below_row (Ev.bt HB4.out (Ev.bal (Ev.br w4) (.cells (stC zeroS).toArray 33))) HB4.out.size _)
    clear hW
    generalize w4.heap.size = b5 at HY5 ⊢
    go_wp2_with (first
      | ((with_reducible show wpList _ _ _ _ _ _); refine wpList_load_at rfl 33 _ rfl b3 0 rfl 33 _ (stC zeroS) (0, 0) _ HX5.out Try.underlying33 rfl (by kernel_rfl) (stC_slf zeroS) ?_)
      | ((with_reducible show wpList _ _ _ _ _ _); refine wpList_load_at rfl 33 _ rfl b5 0 rfl 33 _ (stC zeroS) (0, 0) _ HY5.out Try.underlying33 rfl (by kernel_rfl) (stC_slf zeroS) ?_))
    go_ret
    exact ⟨rfl, HB5.out⟩
  | some x =>
    rw [unpV_some hO] at HUn
    rw [runp_some hO] at HRu
    obtain ⟨hr, hb, hT, _⟩ := unp_some hO
    have HPk := fun W => pack_c x W hT
    rw [pack_yes hr, hb] at HPk
    have hq : ∀ W : World, (binOp .neq 33 (.agg (stC x).toArray) (.agg (stC x).toArray)).run Try.prog W = .ok (.bool false) W := fun W => by
      have := neqS x x W
      rw [decide_eq_true rfl] at this
      exact this
    generalize (⟨σ.toArray⟩ : ByteArray) = s at HUn HRu HPk hlen ⊢
    clear hO hr hb hT
    go_enter Try.func4, Try.ntmps4
    go_upto_region 6 with (first
      | (go_at_call 6; ((with_reducible refine (awake_c _).mono ?_); rintro e w1 ⟨rfl, g1⟩; have HB1 := hid g1))
      | (go_at_call 10; ((with_reducible refine (HUn _).mono ?_); rintro e w2 ⟨rfl, g2⟩; have HB2 := hid (Ev.bt HB1.out g2)))
      | ((with_reducible show wpList _ _ _ _ _ _); refine wpList_store_at rfl 33 _ _ rfl w2.heap.size 0 (stC x) rfl rfl 33 _ (At.new w2 (stC zeroS).toArray 33) (by kernel_rfl) (by show 60 ≤ 60; decide) rfl ?_))
    generalize hW : World.setRow _ _ _ = w3
    have HX3 : Hid (At w3 w2.heap.size (stC x).toArray 33) := hid (by rw [← hW]; exact at_row (At.new w2 (stC zeroS).toArray 33) _)
    have HB3 : Hid (Below w.heap.size w w3) := hid (by rw [← hW]; exact below_row (Ev.bt HB2.out (Ev.bal (Ev.br w2) (.cells (stC zeroS).toArray 33))) HB2.out.size _)
    clear hW
    generalize w2.heap.size = b3 at HX3 ⊢
    go_upto_region 7 with (first
      | (go_at_call 13; ((with_reducible refine (HRu _).mono ?_); rintro e w4 ⟨rfl, g4⟩; have HB4 := hid (Ev.bt HB3.out g4); have HX4 := hid (HX3.out.below g4)))
      | ((with_reducible show wpList _ _ _ _ _ _); refine wpList_store_at rfl 33 _ _ rfl w4.heap.size 0 (stC x) rfl rfl 33 _ (At.new w4 (stC zeroS).toArray 33) (by kernel_rfl) (by show 60 ≤ 60; decide) rfl ?_))
    generalize hW : World.setRow _ _ _ = w5
    have HX5 : Hid (At w5 b3 (stC x).toArray 33) := hid (by rw [← hW]; exact at_row_far (HX4.out.more _) (Nat.ne_of_lt (at_lt HX4.out)) _)
    have HY5 : Hid (At w5 w4.heap.size (stC x).toArray 33) := hid (by rw [← hW]; exact at_row (At.new w4 (stC zeroS).toArray 33) _)
    have HB5 : Hid (Below w.heap.size w w5) := hid (by rw [← hW]; exact below_row (Ev.bt HB4.out (Ev.bal (Ev.br w4) (.cells (stC zeroS).toArray 33))) HB4.out.size _)
    clear hW
    generalize w4.heap.size = b5 at HY5 ⊢
    go_wp2_with (first
      | ((with_reducible show wpList _ _ _ _ _ _); refine wpList_load_at rfl 33 _ rfl b3 0 rfl 33 _ (stC x) (0, 0) _ HX5.out Try.underlying33 rfl (by kernel_rfl) (stC_slf x) ?_)
      | ((with_reducible show wpList _ _ _ _ _ _); refine wpList_load_at rfl 33 _ rfl b5 0 rfl 33 _ (stC x) (0, 0) _ HY5.out Try.underlying33 rfl (by kernel_rfl) (stC_slf x) ?_)
      | (go_at_call 7; ((with_reducible refine (HPk _).mono ?_); rintro e w6 ⟨rfl, g6⟩; have HB6 := hid (Ev.bt HB5.out g6))))
    go_ret
    exact ⟨rfl, HB6.out⟩

theorem reads_w (s : ByteArray) (w : World) (hs : s.size ≤ maxLen) :
    Calls Try.prog 4 #[.string s] w fun e w' => e = .returned (.bool true) ∧ Below w.heap.size w w' := by
  unfold maxLen at hs
  by_cases h : 1000 < s.size
  · exact reads_long s w (by omega) h
  · have e : s = ⟨s.data.toList.toArray⟩ := ByteArray.ext (by simp)
    rw [e]
    exact reads_short s.data.toList w (by rw [← Lib.size_eq]; omega)
end Go.Proofs.Ythbncbdnpeglfaa.Fz
