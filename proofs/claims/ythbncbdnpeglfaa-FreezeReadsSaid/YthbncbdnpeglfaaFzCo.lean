/- Pack, Sum and Unpack (layer 13, freeze). -/
import Derived.Test.YthbncbdnpeglfaaFzWa
import Derived.Test.YthbncbdnpeglfaaFzPure
import Derived.Test.YthbncbdnpeglfaaSmCalls
namespace Go.Proofs.Ythbncbdnpeglfaa.Fz
open Go.RowKit
open Go.Proofs.Ythbncbdnpeglfaa.Ev (At)
open Go.Proofs.Ythbncbdnpeglfaa.Gm (hid Pl Bu St plC buC stC zeroP zeroB zeroS plS setP shS setS rightS right_c wpList_load_at wpList_store_at at_row at_row_far below_row)
open Go.Proofs.Ythbncbdnpeglfaa.Pk (numL rdN sgnN unsN num_pos)
set_option linter.unusedVariables false

theorem stC_slf (s : St) : ∀ j v, (stC s)[j]? = some v → ((stC s).toArray)[0 + j]? = some v := by
  intro j v h
  rw [Nat.zero_add]
  exact (List.getElem?_toArray).trans h
theorem own_low {B B' : Nat} {e : TypeId} {k n : Nat} {v : Value} {xs : List Value} {w : World} (h : w.ownsRowF B e k v n xs) (hb : B' ≤ B) : w.ownsRowF B' e k v n xs := by
  refine ⟨h.1, ?_⟩
  rcases h.2 with hn | ⟨g, cap, cur, fz, rfl, hB, rest⟩
  · exact .inl hn
  · exact .inr ⟨g, cap, cur, fz, rfl, Nat.le_trans hb hB, rest⟩
theorem bat_low {B B' b : Nat} {p : Value} {bs : List Value} {w : World} (h : Lib.BuilderAtF 58 5 B b p bs w) (hb : B' ≤ B) : Lib.BuilderAtF 58 5 B' b p bs w := by
  obtain ⟨hB, v, hbk, hown, hne⟩ := h
  exact ⟨Nat.le_trans hb hB, v, hbk, own_low hown hb, hne⟩
theorem bld_low {B B' b : Nat} {l : List UInt8} {w : World} (h : Bld B b l w) (hb : B' ≤ B) : Bld B' b l w := h.imp (fun h => bat_low h hb) (fun h => bat_low h hb)
theorem bytes_ne (s : St) : bytesS s ≠ [] := by
  have h : 0 < (numL (bitsN s)).length := num_pos _
  intro e
  have e2 := congrArg List.length e
  unfold bytesS at e2
  rw [List.length_append, List.length_append] at e2
  simp only [List.length_nil] at e2
  omega

def packV (s : St) : Value := if rightS s = true then .tuple #[.string ⟨(bytesS s).toArray⟩, .int .i64 0] else .tuple #[.string ⟨#[]⟩, .int .i64 1]

set_option maxRecDepth 100000 in
set_option maxHeartbeats 4000000 in
theorem pack_c (s : St) (w : World) (hT : Ty s) :
    Calls Try.prog 7 #[.agg (stC s).toArray] w fun e w' => e = .returned (packV s) ∧ Below w.heap.size w w' := by
  have HA := hid (At.new w (stC s).toArray 33)
  have HB := hid (Ev.bal (Ev.br w) (.cells (stC s).toArray 33))
  have HT := hid hT
  generalize hC : stC s = cs at HA HB
  go_enter Try.func7, Try.ntmps7
  go_upto_region 1 with fail
  subst hC
  generalize World.alloc w _ = w0 at HA HB ⊢
  cases hr : rightS s
  · have HP : Hid (packV s = .tuple #[.string ⟨#[]⟩, .int .i64 1]) := hid (if_neg (by rw [hr]; decide))
    go_wp2_with (first
      | (refine wpList_load_at rfl 33 _ rfl w.heap.size 0 rfl 33 _ (stC s) (0, 0) _ HA.out Try.underlying33 rfl (by kernel_rfl) (stC_slf s) ?_)
      | (go_at_call 16; ((with_reducible refine (right_c s _).mono ?_); rintro e w1 ⟨rfl, g1⟩; rw [hr]; have HB1 := hid (Ev.bt HB.out g1))))
    go_ret2
    exact ⟨by rw [HP.out]; rfl, HB1.out⟩
  · have HP : Hid (packV s = .tuple #[.string ⟨(bytesS s).toArray⟩, .int .i64 0]) := hid (if_pos hr)
    have HW := hid (written (nn_state HT.out hr))
    go_upto_region 3 with (first
      | (refine wpList_load_at rfl 33 _ rfl w.heap.size 0 rfl 33 _ (stC s) (0, 0) _ HA.out Try.underlying33 rfl (by kernel_rfl) (stC_slf s) ?_)
      | (go_at_call 16; ((with_reducible refine (right_c s _).mono ?_); rintro e w1 ⟨rfl, g1⟩; rw [hr]; have HB1 := hid (Ev.bt HB.out g1); have HA1 := hid (HA.out.below g1))))
    have HN := hid (bld_low (bld_new w1) HB1.out.size)
    have hg := Ev.bal (Ev.br w1) (.cells #[.pointer none, .slice none 0 0] 58)
    have HA2 := hid (HA1.out.below hg)
    have HB2 := hid (Ev.bt HB1.out hg)
    have HWk : Hid (Wk false w.heap.size w1.heap.size [] (w1.alloc (.cells #[.pointer none, .slice none 0 0] 58))) := hid ⟨HB2.out.size, HB1.out.size, HN.out⟩
    clear hg HN HA HB HA1
    go_upto_region 4 with fail
    generalize World.alloc w1 _ = w2 at HA2 HB2 HWk ⊢
    go_wp2_with (first
      | (go_at_call 17; ((with_reducible refine (walkW_c w.heap.size w1.heap.size w.heap.size s [] _ HWk.out HA2.out (Nat.le_refl _) HT.out (by decide)).mono ?_); rintro e w3 ⟨rfl, hW, hA, hO⟩; rw [HW.out] at hW hA; have HW3 := hid hW; have HO3 := hid (HB2.out.trans hO); clear hW hA hO))
      | (go_at_call 18; ((with_reducible refine (string_c w.heap.size w1.heap.size (bytesS s) _ (wk_w HW3.out) (bytes_ne s)).mono ?_); rintro e w4 ⟨rfl, g4⟩; have HO4 := hid (HO3.out.trans g4))))
    go_ret2
    exact ⟨by rw [HP.out]; rfl, HO4.out⟩

def unpV (σ : List UInt8) : Value := .tuple #[.agg (stC ((unpR σ).getD zeroS)).toArray, .int .i64 (if (unpR σ).isSome then 0 else 4)]

theorem unp_w (σ : List UInt8) : (Ty (walkW true (zeroS, σ)).1) := ty_walk ty_zero
theorem str_eq (a b : List UInt8) : (decide (a = b)) = (a == b) := by
  by_cases h : a = b
  · subst h; simp
  · simp [h]

set_option maxRecDepth 100000 in
set_option maxHeartbeats 4000000 in
theorem unpack_c (σ : List UInt8) (w : World) (hl : σ.length ≤ 1073700000) :
    Calls Try.prog 10 #[.string ⟨σ.toArray⟩] w fun e w' => e = .returned (unpV σ) ∧ Below w.heap.size w w' := by
  have HA := hid ((At.new w (stC zeroS).toArray 33).more (.cells (stC zeroS).toArray 33))
  have HZ := hid (At.new (w.alloc (.cells (stC zeroS).toArray 33)) (stC zeroS).toArray 33)
  have HB := hid (Ev.bal (Ev.bal (Ev.br w) (.cells (stC zeroS).toArray 33)) (.cells (stC zeroS).toArray 33))
  have hL := hid hl
  clear hl
  go_enter Try.func10, Try.ntmps10
  go_upto_region 2 with fail
  generalize hw : World.alloc (World.alloc w _) _ = w0
  have HA0 : Hid (At w0 w.heap.size (stC zeroS).toArray 33) := hid (by rw [← hw]; exact HA.out)
  have HZ0 : Hid (At w0 (w.heap.size + 1) (stC zeroS).toArray 33) := hid (by rw [← hw]; have := HZ.out; rw [show (w.alloc (.cells (stC zeroS).toArray 33)).heap.size = w.heap.size + 1 by simp] at this; exact this)
  have HB0 : Hid (Below w.heap.size w w0) := hid (by rw [← hw]; exact HB.out)
  clear hw HA HZ HB
  have hs0 : w.heap.size + 1 < w0.heap.size := (Array.getElem?_eq_some_iff.1 (show w0.heap[w.heap.size + 1]? = some _ from HZ0.out)).1
  have hg := Ev.bal (Ev.br w0) (.cells #[.string ⟨σ.toArray⟩] 70)
  have HA1 := hid (HA0.out.below hg)
  have HZ1 := hid (HZ0.out.below hg)
  have HB1 := hid (Ev.bt HB0.out hg)
  have HWk : Hid (Wk true (w.heap.size + 1) w0.heap.size σ (w0.alloc (.cells #[.string ⟨σ.toArray⟩] 70))) := hid ⟨Nat.le_trans (Nat.le_of_lt hs0) hg.size, Nat.le_of_lt hs0, At.new w0 _ _⟩
  clear hg HA0 HZ0 HB0 hs0
  have HU : Hid (unpR σ = if rightS (walkW true (zeroS, σ)).1 = true ∧ bytesS (walkW true (zeroS, σ)).1 = σ then some (walkW true (zeroS, σ)).1 else none) := hid rfl
  have HT := hid (unp_w σ)
  go_upto_region 3 with (go_at_call 17; ((with_reducible refine (walkR_c (w.heap.size + 1) w0.heap.size (w.heap.size + 1) zeroS σ _ HWk.out HZ1.out (Nat.le_refl _) ty_zero hL.out).mono ?_); rintro e w3 ⟨rfl, hW, hA, hO⟩; have HA3 := hid hA; have HR3 : Hid (At w3 w.heap.size (stC zeroS).toArray 33) := hid ((hO.block _ (Nat.lt_succ_self _)).trans HA1.out); have HB3 := hid (HB1.out.trans (hO.mono (Nat.le_succ _))); clear hW hA hO))
  clear HA1 HZ1 HB1 HWk
  generalize (walkW true (zeroS, σ)).1 = X at HU HT HA3
  cases hr : rightS X
  · have hU : unpR σ = none := by rw [HU.out]; exact if_neg (by rw [hr]; simp)
    have HV : Hid (unpV σ = .tuple #[.agg (stC zeroS).toArray, .int .i64 4]) := hid (by unfold unpV; rw [hU]; rfl)
    have HP : Hid (packV X = .tuple #[.string ⟨#[]⟩, .int .i64 1]) := hid (if_neg (by rw [hr]; decide))
    clear hU HU
    go_wp2_with (first
      | (refine wpList_load_at rfl 33 _ rfl (w.heap.size + 1) 0 rfl 33 _ (stC X) (0, 0) _ HA3.out Try.underlying33 rfl (by kernel_rfl) (stC_slf X) ?_)
      | (go_at_call 7; ((with_reducible refine (pack_c X _ HT.out).mono ?_); rintro e w4 ⟨rfl, g4⟩; rw [HP.out]; have HR4 := hid (HR3.out.below g4); have HB4 := hid (Ev.bt HB3.out g4)))
      | (refine wpList_store_at rfl 33 _ _ rfl w.heap.size 0 (stC zeroS) rfl rfl 33 _ HR4.out (by kernel_rfl) (by show 60 ≤ 60; decide) rfl ?_))
    have HS : Hid (At (w4.setRow w.heap.size (stC zeroS).toArray) w.heap.size (stC zeroS).toArray 33) := hid (at_row HR4.out _)
    have HB5 : Hid (Below w.heap.size w (w4.setRow w.heap.size (stC zeroS).toArray)) := hid (below_row HB4.out (Nat.le_refl _) _)
    refine bodyPost_ret (Gm.results_cell_tmp rfl _ _ w.heap.size 33 (stC zeroS).toArray (0, 0) _ rfl HS.out Try.underlying33 rfl (by kernel_rfl)) rfl ?_
    exact ⟨by rw [HV.out]; rfl, HB5.out⟩
  · have HP : Hid (packV X = .tuple #[.string ⟨(bytesS X).toArray⟩, .int .i64 0]) := hid (if_pos hr)
    by_cases he : bytesS X = σ
    · have hU : unpR σ = some X := by rw [HU.out]; exact if_pos ⟨hr, he⟩
      have HV : Hid (unpV σ = .tuple #[.agg (stC X).toArray, .int .i64 0]) := hid (by unfold unpV; rw [hU]; rfl)
      rw [he] at HP
      clear hU HU he
      go_wp2_with (first
        | (refine wpList_load_at rfl 33 _ rfl (w.heap.size + 1) 0 rfl 33 _ (stC X) (0, 0) _ HA3.out Try.underlying33 rfl (by kernel_rfl) (stC_slf X) ?_)
        | (go_at_call 7; ((with_reducible refine (pack_c X _ HT.out).mono ?_); rintro e w4 ⟨rfl, g4⟩; rw [HP.out]; have HR4 := hid (HR3.out.below g4); have HA4 := hid (HA3.out.below g4); have HB4 := hid (Ev.bt HB3.out g4)))
        | (refine wpList_load_at rfl 33 _ rfl (w.heap.size + 1) 0 rfl 33 _ (stC X) (0, 0) _ HA4.out Try.underlying33 rfl (by kernel_rfl) (stC_slf X) ?_)
        | (refine wpList_store_at rfl 33 _ _ rfl w.heap.size 0 (stC X) rfl rfl 33 _ HR4.out (by kernel_rfl) (by show 60 ≤ 60; decide) rfl ?_))
      have HS : Hid (At (w4.setRow w.heap.size (stC X).toArray) w.heap.size (stC X).toArray 33) := hid (at_row HR4.out _)
      have HB5 : Hid (Below w.heap.size w (w4.setRow w.heap.size (stC X).toArray)) := hid (below_row HB4.out (Nat.le_refl _) _)
      refine bodyPost_ret (Gm.results_cell_tmp rfl _ _ w.heap.size 33 (stC X).toArray (0, 0) _ rfl HS.out Try.underlying33 rfl (by kernel_rfl)) rfl ?_
      exact ⟨by rw [HV.out]; rfl, HB5.out⟩
    · have hU : unpR σ = none := by rw [HU.out]; exact if_neg (fun h => he h.2)
      have HV : Hid (unpV σ = .tuple #[.agg (stC zeroS).toArray, .int .i64 4]) := hid (by unfold unpV; rw [hU]; rfl)
      generalize bytesS X = τ at HP he
      have hb : (τ == σ) = false := by simpa using he
      clear hU HU he
      go_wp2_with (first
        | (refine wpList_load_at rfl 33 _ rfl (w.heap.size + 1) 0 rfl 33 _ (stC X) (0, 0) _ HA3.out Try.underlying33 rfl (by kernel_rfl) (stC_slf X) ?_)
        | (go_at_call 7; ((with_reducible refine (pack_c X _ HT.out).mono ?_); rintro e w4 ⟨rfl, g4⟩; rw [HP.out]; have HR4 := hid (HR3.out.below g4); have HB4 := hid (Ev.bt HB3.out g4)))
        | (refine wpList_store_at rfl 33 _ _ rfl w.heap.size 0 (stC zeroS) rfl rfl 33 _ HR4.out (by kernel_rfl) (by show 60 ≤ 60; decide) rfl ?_))
      have HS : Hid (At (w4.setRow w.heap.size (stC zeroS).toArray) w.heap.size (stC zeroS).toArray 33) := hid (at_row HR4.out _)
      have HB5 : Hid (Below w.heap.size w (w4.setRow w.heap.size (stC zeroS).toArray)) := hid (below_row HB4.out (Nat.le_refl _) _)
      refine bodyPost_ret (Gm.results_cell_tmp rfl _ _ w.heap.size 33 (stC zeroS).toArray (0, 0) _ rfl HS.out Try.underlying33 rfl (by kernel_rfl)) rfl ?_
      exact ⟨by rw [HV.out]; rfl, HB5.out⟩

def sumV (s : St) : Value := if rightS s = true then .tuple #[.int .u32 (Sm.ofI (bytesS s)), .int .i64 0] else .tuple #[.int .u32 0, .int .i64 1]
end Go.Proofs.Ythbncbdnpeglfaa.Fz
