/- Places walked (layer 13, freeze). -/
import Derived.Test.YthbncbdnpeglfaaFzNm
namespace Go.Proofs.Ythbncbdnpeglfaa.Fz
open Go.RowKit
open Go.Proofs.Ythbncbdnpeglfaa.Ev (At)
open Go.Proofs.Ythbncbdnpeglfaa.Gm (hid Pl Bu St plC buC stC zeroP zeroB zeroS plS setP shS setS)
open Go.Proofs.Ythbncbdnpeglfaa.Pk (numL rdN sgnN unsN rd_num num_lt num_pos rd_back rd_bd uns_sgn sgn_uns sgn_bd uns_bd num_len10)
set_option linter.unusedVariables false


set_option maxRecDepth 100000 in
set_option maxHeartbeats 4000000 in
theorem placeW_c (n q b g : Nat) (js : List Nat) (cs : List Value) (σ : List UInt8) (w : World) (hW : Wk false n q σ w) (hb : At w b cs.toArray 33) (hnb : n ≤ b) (hg : At w g (ptrs b js).toArray 93)
    (hjs : ∀ j ∈ js, Okc .i32 (-2147483648) 2147483647 cs j ∧ Okc .i32 (-2147483648) 2147483647 cs (j + 1)) (hl : σ.length + 20 * js.length ≤ 1073741824) :
    Calls Try.prog 35 #[.iface 60 (.pointer (some ⟨q, 0, none⟩)), .slice (some ⟨g, 0, none⟩) js.length js.length] w fun e w' => e = .returned (.tuple #[]) ∧ Wk false n q (js.foldl (atV false) (cs, σ)).2 w' ∧ At w' b (js.foldl (atV false) (cs, σ)).1.toArray 33 ∧ Below n w w' := by
  have hjl : (js.length : Int) ≤ 107374182 := by omega
  have HL := hid hl
  have HJ := hid hjs
  have H0 := hid hW
  have HB0 := hid hb
  have HG0 := hid hg
  clear hl hjs hW hb hg
  go_enter Try.func35, Try.ntmps35
  go_wp2_with fail
  go_loopw [8] (fun v wr => ∃ i : Nat, i ≤ js.length ∧ v = .int .i64 i ∧ Wk false n q ((js.take i).foldl (atV false) (cs, σ)).2 wr ∧ At wr b ((js.take i).foldl (atV false) (cs, σ)).1.toArray 33 ∧ At wr g (ptrs b js).toArray 93 ∧ Below n w wr ∧ (((js.take i).foldl (atV false) (cs, σ)).2.length ≤ σ.length + 20 * i) ∧ ∀ j ∈ js, Okc .i32 (-2147483648) 2147483647 ((js.take i).foldl (atV false) (cs, σ)).1 j ∧ Okc .i32 (-2147483648) 2147483647 ((js.take i).foldl (atV false) (cs, σ)).1 (j + 1)) (fun v _ => js.length - (intOf v).toNat)
  case atStart => exact ⟨0, Nat.zero_le _, rfl, H0.out, HB0.out, HG0.out, Below.refl _ _, by simp, HJ.out⟩
  case round =>
    obtain ⟨i, hi, rfl, hW, hB, hG, hO, hN, hC⟩ := hrel
    by_cases hlt : i < js.length
    · obtain ⟨j, hj⟩ : ∃ j, js[i]? = some j := ⟨_, List.getElem?_eq_getElem hlt⟩
      have hjm : j ∈ js := List.mem_of_getElem? hj
      have HE := hid (fold_take (atV false) (cs, σ) js hj)
      generalize hq : (js.take i).foldl (atV false) (cs, σ) = qq at *
      obtain ⟨cs0, σ0⟩ := qq
      dsimp only at hW hB hG hN hC
      clear hq
      have HW0 := hid hW
      have HB1 := hid hB
      have HG1 := hid hG
      have HC0 := hid hC
      have HO0 := hid hO
      have hi0 : (0 : Int) ≤ (i : Int) := by omega
      have hi1 : (i : Int) < js.length := by omega
      have cg : wr.cell? ⟨g, i, none⟩ = some (.pointer (some ⟨b, j, none⟩)) := by
        rw [cell_of_row wr g i _ _ _ hG]
        exact (List.getElem?_toArray).trans (ptrs_at hj)
      have NA : ∀ (a : Addr) (W : World), (nilAhead 244 60 (.pointer (some a)) "promptbook/freeze.signed").run Try.prog W = .ok (some false) W := fun a W => by kernel_rfl
      have MN : ∀ (a : Addr) (W : World), (method 244 60 (.pointer (some a)) "promptbook/freeze.signed").run Try.prog W = .ok (73, .pointer (some a)) W := fun a W => by kernel_rfl
      clear hW hB hG hC hO
      -- part 0
      obtain ⟨hc1, hc2, hc3⟩ := okc_at (HC0.out j hjm).1
      have HX0 : Hid (atZ false (cs0, σ0) j = (cs0.set j (.int .i32 (i32W false σ0 (intAt cs0 j)).1), (i32W false σ0 (intAt cs0 j)).2)) := hid rfl
      generalize intAt cs0 j = x0 at hc1 hc2 hc3 HX0
      have cb : wr.cell? ⟨b, j, none⟩ = some (.int .i32 x0) := by
        rw [cell_of_row wr b j _ _ _ HB1.out]
        exact (List.getElem?_toArray).trans hc1
      have hx0 : -9223372036854775808 ≤ x0 := by omega
      have hx1 : x0 ≤ 9223372036854775807 := by omega
      have HLen0 := hid (len_Z false σ0 x0 hx0 hx1)
      have hNl : σ0.length ≤ 1073741824 := by have := HL.out; omega
      have HNum : Hid (∀ (W : World) (hW : Wk false n q σ0 W), Calls Try.prog 73 #[.pointer (some ⟨q, 0, none⟩), .int .i64 (IntKind.i64.wrap x0)] W fun e w' => e = .returned (.int .i64 (nxZ false σ0 x0).1) ∧ Wk false n q (nxZ false σ0 x0).2 w' ∧ Ks n q W w') := hid (fun W hW => by
        rw [IntWalk.i64_in x0 ⟨hx0, hx1⟩]
        exact sgn_w n q σ0 _ W hW hx0 hx1 hNl)
      have hX : i32W false σ0 x0 = (IntKind.i32.wrap (nxZ false σ0 x0).1, (nxZ false σ0 x0).2) := rfl
      rw [hX] at HX0
      have CBN := hid (fun (W : World) (h : At W b cs0.toArray 33) => (cell_of_row W b j _ _ _ h).trans ((List.getElem?_toArray).trans hc1))
      clear hX hc1 hx0 hx1 hc2 hc3
      generalize nxZ false σ0 x0 = r at HNum HLen0 HX0
      obtain ⟨r0, σ1⟩ := r
      dsimp only at HNum HLen0 HX0
      go_upto_region 3 with fail
      have HWd := hid (HW0.out.below (Below.drew (Below.refl _ wr)))
      have HBd := hid (HB1.out.below (Below.drew (Below.refl _ wr)))
      have HGd := hid (HG1.out.below (Below.drew (Below.refl _ wr)))
      have HOd := hid (HO0.out.trans ((Below.drew (Below.refl _ wr)).mono HW0.out.1))
      go_region_with (go_at_call 73; ((with_reducible refine (HNum.out _ HWd.out).mono ?_); rintro e w1 ⟨rfl, hW2, hK2⟩; have HWa := hid hW2; have HK2 := hid hK2; have HB2 := hid (hK2.oth b _ _ HBd.out (HWd.out.ne HBd.out (by decide) (by decide)) (by decide)); have HG2 := hid (hK2.oth g _ _ HGd.out (HWd.out.ne HGd.out (by decide) (by decide)) (by decide)); have fb := HB2.out.frozen (j); have cb2 := CBN.out _ HB2.out; clear hW2 hK2))
      all_goals
        have HW1 := hid (HWa.out.far HB2.out (by decide) (by decide) (by decide) (j) (.int .i32 (IntKind.i32.wrap r0)))
        have HBm1 : Hid (At (w1.setCell ⟨b, j, none⟩ (.int .i32 (IntKind.i32.wrap r0))) b (cs0.set (j) (.int .i32 (IntKind.i32.wrap r0))).toArray 33) := hid (by
          have h := heap_setCell_same w1 b (j) _ _ (.int .i32 (IntKind.i32.wrap r0)) HB2.out
          unfold At
          rw [h, list_set])
        have HGm1 := hid (at_far (j := j) HG2.out (show g ≠ b from fun e => by subst e; exact absurd (at_type HG2.out HB2.out) (by decide)) (.int .i32 (IntKind.i32.wrap r0)))
        have HO1 := hid ((HOd.out.trans HK2.out.old).setCell (p := ⟨b, j, none⟩) hnb (.int .i32 (IntKind.i32.wrap r0)))
        have HC1 : Hid (∀ j' ∈ js, Okc .i32 (-2147483648) 2147483647 (cs0.set (j) (.int .i32 (IntKind.i32.wrap r0))) j' ∧ Okc .i32 (-2147483648) 2147483647 (cs0.set (j) (.int .i32 (IntKind.i32.wrap r0))) (j' + 1)) := hid (fun j' hj' => ⟨okc_set (HC0.out j' hj').1 (i32_bd _).1 (i32_bd _).2, okc_set (HC0.out j' hj').2 (i32_bd _).1 (i32_bd _).2⟩)
        generalize World.setCell w1 _ _ = v1 at HW1 HBm1 HGm1 HO1 ⊢
        generalize hcs : cs0.set (j) (.int .i32 (IntKind.i32.wrap r0)) = cs1 at HBm1 HC1 HX0
        clear fb cb2 cb HB2 HG2 HWa HK2 HWd HBd HGd HOd HNum hcs CBN
        -- part 1
        obtain ⟨hc1, hc2, hc3⟩ := okc_at (HC1.out j hjm).2
        have HX1 : Hid (atZ false (cs1, σ1) (j + 1) = (cs1.set (j + 1) (.int .i32 (i32W false σ1 (intAt cs1 (j + 1))).1), (i32W false σ1 (intAt cs1 (j + 1))).2)) := hid rfl
        generalize intAt cs1 (j + 1) = x1 at hc1 hc2 hc3 HX1
        have cb : v1.cell? ⟨b, (j + 1), none⟩ = some (.int .i32 x1) := by
          rw [cell_of_row v1 b (j + 1) _ _ _ HBm1.out]
          exact (List.getElem?_toArray).trans hc1
        have hx0 : -9223372036854775808 ≤ x1 := by omega
        have hx1 : x1 ≤ 9223372036854775807 := by omega
        have HLen1 := hid (len_Z false σ1 x1 hx0 hx1)
        have hNl : σ1.length ≤ 1073741824 := by have := HL.out; have := HLen0.out; omega
        have HNum : Hid (∀ (W : World) (hW : Wk false n q σ1 W), Calls Try.prog 73 #[.pointer (some ⟨q, 0, none⟩), .int .i64 (IntKind.i64.wrap x1)] W fun e w' => e = .returned (.int .i64 (nxZ false σ1 x1).1) ∧ Wk false n q (nxZ false σ1 x1).2 w' ∧ Ks n q W w') := hid (fun W hW => by
          rw [IntWalk.i64_in x1 ⟨hx0, hx1⟩]
          exact sgn_w n q σ1 _ W hW hx0 hx1 hNl)
        have hX : i32W false σ1 x1 = (IntKind.i32.wrap (nxZ false σ1 x1).1, (nxZ false σ1 x1).2) := rfl
        rw [hX] at HX1
        have CBN := hid (fun (W : World) (h : At W b cs1.toArray 33) => (cell_of_row W b (j + 1) _ _ _ h).trans ((List.getElem?_toArray).trans hc1))
        clear hX hc1 hx0 hx1 hc2 hc3
        generalize nxZ false σ1 x1 = r at HNum HLen1 HX1
        obtain ⟨r1, σ2⟩ := r
        dsimp only at HNum HLen1 HX1
        go_upto_region 4 with fail
        have HWd := hid (HW1.out.below (Below.drew (Below.refl _ v1)))
        have HBd := hid (HBm1.out.below (Below.drew (Below.refl _ v1)))
        have HGd := hid (HGm1.out.below (Below.drew (Below.refl _ v1)))
        have HOd := hid (HO1.out.trans ((Below.drew (Below.refl _ v1)).mono HW1.out.1))
        go_region_with (go_at_call 73; ((with_reducible refine (HNum.out _ HWd.out).mono ?_); rintro e w1 ⟨rfl, hW2, hK2⟩; have HWa := hid hW2; have HK2 := hid hK2; have HB2 := hid (hK2.oth b _ _ HBd.out (HWd.out.ne HBd.out (by decide) (by decide)) (by decide)); have HG2 := hid (hK2.oth g _ _ HGd.out (HWd.out.ne HGd.out (by decide) (by decide)) (by decide)); have fb := HB2.out.frozen ((j + 1)); have cb2 := CBN.out _ HB2.out; clear hW2 hK2))
        all_goals
          have HW2 := hid (HWa.out.far HB2.out (by decide) (by decide) (by decide) ((j + 1)) (.int .i32 (IntKind.i32.wrap r1)))
          have HBm2 : Hid (At (w1.setCell ⟨b, (j + 1), none⟩ (.int .i32 (IntKind.i32.wrap r1))) b (cs1.set ((j + 1)) (.int .i32 (IntKind.i32.wrap r1))).toArray 33) := hid (by
            have h := heap_setCell_same w1 b ((j + 1)) _ _ (.int .i32 (IntKind.i32.wrap r1)) HB2.out
            unfold At
            rw [h, list_set])
          have HGm2 := hid (at_far (j := (j + 1)) HG2.out (show g ≠ b from fun e => by subst e; exact absurd (at_type HG2.out HB2.out) (by decide)) (.int .i32 (IntKind.i32.wrap r1)))
          have HO2 := hid ((HOd.out.trans HK2.out.old).setCell (p := ⟨b, (j + 1), none⟩) hnb (.int .i32 (IntKind.i32.wrap r1)))
          have HC2 : Hid (∀ j' ∈ js, Okc .i32 (-2147483648) 2147483647 (cs1.set ((j + 1)) (.int .i32 (IntKind.i32.wrap r1))) j' ∧ Okc .i32 (-2147483648) 2147483647 (cs1.set ((j + 1)) (.int .i32 (IntKind.i32.wrap r1))) (j' + 1)) := hid (fun j' hj' => ⟨okc_set (HC1.out j' hj').1 (i32_bd _).1 (i32_bd _).2, okc_set (HC1.out j' hj').2 (i32_bd _).1 (i32_bd _).2⟩)
          generalize World.setCell w1 _ _ = v2 at HW2 HBm2 HGm2 HO2 ⊢
          generalize hcs : cs1.set ((j + 1)) (.int .i32 (IntKind.i32.wrap r1)) = cs2 at HBm2 HC2 HX1
          clear fb cb2 cb HB2 HG2 HWa HK2 HWd HBd HGd HOd HNum hcs CBN
          go_wp2_with fail
          go_roundw
          case rel => exact ⟨i + 1, hlt, by go_num, by rw [HE.out, show atV false (cs0, σ0) j = atZ false (atZ false (cs0, σ0) j) (j + 1) from rfl, HX0.out, HX1.out]; exact HW2.out, by rw [HE.out, show atV false (cs0, σ0) j = atZ false (atZ false (cs0, σ0) j) (j + 1) from rfl, HX0.out, HX1.out]; exact HBm2.out, HGm2.out, HO2.out, by rw [HE.out, show atV false (cs0, σ0) j = atZ false (atZ false (cs0, σ0) j) (j + 1) from rfl, HX0.out, HX1.out]; have := HLen0.out; have := HLen1.out; show σ2.length ≤ _; omega, by rw [HE.out, show atV false (cs0, σ0) j = atZ false (atZ false (cs0, σ0) j) (j + 1) from rfl, HX0.out, HX1.out]; exact HC2.out⟩
          case measure => simp [intOf]; omega
    · have hi2 : i = js.length := by omega
      subst hi2
      rw [List.take_length] at hW hB
      have HWf := hid hW
      have HBf := hid hB
      have HOf := hid hO
      clear hW hB hG hC hO hN
      go_wp2_with fail
      go_end0
      exact ⟨rfl, HWf.out, HBf.out, HOf.out⟩

set_option maxRecDepth 100000 in
set_option maxHeartbeats 4000000 in
theorem placeR_c (n q b g : Nat) (js : List Nat) (cs : List Value) (σ : List UInt8) (w : World) (hW : Wk true n q σ w) (hb : At w b cs.toArray 33) (hnb : n ≤ b) (hg : At w g (ptrs b js).toArray 93)
    (hjs : ∀ j ∈ js, Okc .i32 (-2147483648) 2147483647 cs j ∧ Okc .i32 (-2147483648) 2147483647 cs (j + 1)) (hl : σ.length + 20 * js.length ≤ 1073741824) :
    Calls Try.prog 35 #[.iface 68 (.pointer (some ⟨q, 0, none⟩)), .slice (some ⟨g, 0, none⟩) js.length js.length] w fun e w' => e = .returned (.tuple #[]) ∧ Wk true n q (js.foldl (atV true) (cs, σ)).2 w' ∧ At w' b (js.foldl (atV true) (cs, σ)).1.toArray 33 ∧ Below n w w' := by
  have hjl : (js.length : Int) ≤ 107374182 := by omega
  have HL := hid hl
  have HJ := hid hjs
  have H0 := hid hW
  have HB0 := hid hb
  have HG0 := hid hg
  clear hl hjs hW hb hg
  go_enter Try.func35, Try.ntmps35
  go_wp2_with fail
  go_loopw [8] (fun v wr => ∃ i : Nat, i ≤ js.length ∧ v = .int .i64 i ∧ Wk true n q ((js.take i).foldl (atV true) (cs, σ)).2 wr ∧ At wr b ((js.take i).foldl (atV true) (cs, σ)).1.toArray 33 ∧ At wr g (ptrs b js).toArray 93 ∧ Below n w wr ∧ (((js.take i).foldl (atV true) (cs, σ)).2.length ≤ σ.length + 20 * i) ∧ ∀ j ∈ js, Okc .i32 (-2147483648) 2147483647 ((js.take i).foldl (atV true) (cs, σ)).1 j ∧ Okc .i32 (-2147483648) 2147483647 ((js.take i).foldl (atV true) (cs, σ)).1 (j + 1)) (fun v _ => js.length - (intOf v).toNat)
  case atStart => exact ⟨0, Nat.zero_le _, rfl, H0.out, HB0.out, HG0.out, Below.refl _ _, by simp, HJ.out⟩
  case round =>
    obtain ⟨i, hi, rfl, hW, hB, hG, hO, hN, hC⟩ := hrel
    by_cases hlt : i < js.length
    · obtain ⟨j, hj⟩ : ∃ j, js[i]? = some j := ⟨_, List.getElem?_eq_getElem hlt⟩
      have hjm : j ∈ js := List.mem_of_getElem? hj
      have HE := hid (fold_take (atV true) (cs, σ) js hj)
      generalize hq : (js.take i).foldl (atV true) (cs, σ) = qq at *
      obtain ⟨cs0, σ0⟩ := qq
      dsimp only at hW hB hG hN hC
      clear hq
      have HW0 := hid hW
      have HB1 := hid hB
      have HG1 := hid hG
      have HC0 := hid hC
      have HO0 := hid hO
      have hi0 : (0 : Int) ≤ (i : Int) := by omega
      have hi1 : (i : Int) < js.length := by omega
      have cg : wr.cell? ⟨g, i, none⟩ = some (.pointer (some ⟨b, j, none⟩)) := by
        rw [cell_of_row wr g i _ _ _ hG]
        exact (List.getElem?_toArray).trans (ptrs_at hj)
      have NA : ∀ (a : Addr) (W : World), (nilAhead 244 68 (.pointer (some a)) "promptbook/freeze.signed").run Try.prog W = .ok (some false) W := fun a W => by kernel_rfl
      have MN : ∀ (a : Addr) (W : World), (method 244 68 (.pointer (some a)) "promptbook/freeze.signed").run Try.prog W = .ok (83, .pointer (some a)) W := fun a W => by kernel_rfl
      clear hW hB hG hC hO
      -- part 0
      obtain ⟨hc1, hc2, hc3⟩ := okc_at (HC0.out j hjm).1
      have HX0 : Hid (atZ true (cs0, σ0) j = (cs0.set j (.int .i32 (i32W true σ0 (intAt cs0 j)).1), (i32W true σ0 (intAt cs0 j)).2)) := hid rfl
      generalize intAt cs0 j = x0 at hc1 hc2 hc3 HX0
      have cb : wr.cell? ⟨b, j, none⟩ = some (.int .i32 x0) := by
        rw [cell_of_row wr b j _ _ _ HB1.out]
        exact (List.getElem?_toArray).trans hc1
      have hx0 : -9223372036854775808 ≤ x0 := by omega
      have hx1 : x0 ≤ 9223372036854775807 := by omega
      have HLen0 := hid (len_Z true σ0 x0 hx0 hx1)
      have hNl : σ0.length ≤ 1073741824 := by have := HL.out; omega
      have HNum : Hid (∀ (W : World) (hW : Wk true n q σ0 W), Calls Try.prog 83 #[.pointer (some ⟨q, 0, none⟩), .int .i64 (IntKind.i64.wrap x0)] W fun e w' => e = .returned (.int .i64 (nxZ true σ0 x0).1) ∧ Wk true n q (nxZ true σ0 x0).2 w' ∧ Ks n q W w') := hid (fun W hW => by
        rw [IntWalk.i64_in x0 ⟨hx0, hx1⟩]
        exact sgn_r n q σ0 _ W hW hx0 hx1 hNl)
      have hX : i32W true σ0 x0 = (IntKind.i32.wrap (nxZ true σ0 x0).1, (nxZ true σ0 x0).2) := rfl
      rw [hX] at HX0
      have CBN := hid (fun (W : World) (h : At W b cs0.toArray 33) => (cell_of_row W b j _ _ _ h).trans ((List.getElem?_toArray).trans hc1))
      clear hX hc1 hx0 hx1 hc2 hc3
      generalize nxZ true σ0 x0 = r at HNum HLen0 HX0
      obtain ⟨r0, σ1⟩ := r
      dsimp only at HNum HLen0 HX0
      go_upto_region 3 with fail
      have HWd := hid (HW0.out.below (Below.drew (Below.refl _ wr)))
      have HBd := hid (HB1.out.below (Below.drew (Below.refl _ wr)))
      have HGd := hid (HG1.out.below (Below.drew (Below.refl _ wr)))
      have HOd := hid (HO0.out.trans ((Below.drew (Below.refl _ wr)).mono HW0.out.1))
      go_region_with (go_at_call 83; ((with_reducible refine (HNum.out _ HWd.out).mono ?_); rintro e w1 ⟨rfl, hW2, hK2⟩; have HWa := hid hW2; have HK2 := hid hK2; have HB2 := hid (hK2.oth b _ _ HBd.out (HWd.out.ne HBd.out (by decide) (by decide)) (by decide)); have HG2 := hid (hK2.oth g _ _ HGd.out (HWd.out.ne HGd.out (by decide) (by decide)) (by decide)); have fb := HB2.out.frozen (j); have cb2 := CBN.out _ HB2.out; clear hW2 hK2))
      all_goals
        have HW1 := hid (HWa.out.far HB2.out (by decide) (by decide) (by decide) (j) (.int .i32 (IntKind.i32.wrap r0)))
        have HBm1 : Hid (At (w1.setCell ⟨b, j, none⟩ (.int .i32 (IntKind.i32.wrap r0))) b (cs0.set (j) (.int .i32 (IntKind.i32.wrap r0))).toArray 33) := hid (by
          have h := heap_setCell_same w1 b (j) _ _ (.int .i32 (IntKind.i32.wrap r0)) HB2.out
          unfold At
          rw [h, list_set])
        have HGm1 := hid (at_far (j := j) HG2.out (show g ≠ b from fun e => by subst e; exact absurd (at_type HG2.out HB2.out) (by decide)) (.int .i32 (IntKind.i32.wrap r0)))
        have HO1 := hid ((HOd.out.trans HK2.out.old).setCell (p := ⟨b, j, none⟩) hnb (.int .i32 (IntKind.i32.wrap r0)))
        have HC1 : Hid (∀ j' ∈ js, Okc .i32 (-2147483648) 2147483647 (cs0.set (j) (.int .i32 (IntKind.i32.wrap r0))) j' ∧ Okc .i32 (-2147483648) 2147483647 (cs0.set (j) (.int .i32 (IntKind.i32.wrap r0))) (j' + 1)) := hid (fun j' hj' => ⟨okc_set (HC0.out j' hj').1 (i32_bd _).1 (i32_bd _).2, okc_set (HC0.out j' hj').2 (i32_bd _).1 (i32_bd _).2⟩)
        generalize World.setCell w1 _ _ = v1 at HW1 HBm1 HGm1 HO1 ⊢
        generalize hcs : cs0.set (j) (.int .i32 (IntKind.i32.wrap r0)) = cs1 at HBm1 HC1 HX0
        clear fb cb2 cb HB2 HG2 HWa HK2 HWd HBd HGd HOd HNum hcs CBN
        -- part 1
        obtain ⟨hc1, hc2, hc3⟩ := okc_at (HC1.out j hjm).2
        have HX1 : Hid (atZ true (cs1, σ1) (j + 1) = (cs1.set (j + 1) (.int .i32 (i32W true σ1 (intAt cs1 (j + 1))).1), (i32W true σ1 (intAt cs1 (j + 1))).2)) := hid rfl
        generalize intAt cs1 (j + 1) = x1 at hc1 hc2 hc3 HX1
        have cb : v1.cell? ⟨b, (j + 1), none⟩ = some (.int .i32 x1) := by
          rw [cell_of_row v1 b (j + 1) _ _ _ HBm1.out]
          exact (List.getElem?_toArray).trans hc1
        have hx0 : -9223372036854775808 ≤ x1 := by omega
        have hx1 : x1 ≤ 9223372036854775807 := by omega
        have HLen1 := hid (len_Z true σ1 x1 hx0 hx1)
        have hNl : σ1.length ≤ 1073741824 := by have := HL.out; have := HLen0.out; omega
        have HNum : Hid (∀ (W : World) (hW : Wk true n q σ1 W), Calls Try.prog 83 #[.pointer (some ⟨q, 0, none⟩), .int .i64 (IntKind.i64.wrap x1)] W fun e w' => e = .returned (.int .i64 (nxZ true σ1 x1).1) ∧ Wk true n q (nxZ true σ1 x1).2 w' ∧ Ks n q W w') := hid (fun W hW => by
          rw [IntWalk.i64_in x1 ⟨hx0, hx1⟩]
          exact sgn_r n q σ1 _ W hW hx0 hx1 hNl)
        have hX : i32W true σ1 x1 = (IntKind.i32.wrap (nxZ true σ1 x1).1, (nxZ true σ1 x1).2) := rfl
        rw [hX] at HX1
        have CBN := hid (fun (W : World) (h : At W b cs1.toArray 33) => (cell_of_row W b (j + 1) _ _ _ h).trans ((List.getElem?_toArray).trans hc1))
        clear hX hc1 hx0 hx1 hc2 hc3
        generalize nxZ true σ1 x1 = r at HNum HLen1 HX1
        obtain ⟨r1, σ2⟩ := r
        dsimp only at HNum HLen1 HX1
        go_upto_region 4 with fail
        have HWd := hid (HW1.out.below (Below.drew (Below.refl _ v1)))
        have HBd := hid (HBm1.out.below (Below.drew (Below.refl _ v1)))
        have HGd := hid (HGm1.out.below (Below.drew (Below.refl _ v1)))
        have HOd := hid (HO1.out.trans ((Below.drew (Below.refl _ v1)).mono HW1.out.1))
        go_region_with (go_at_call 83; ((with_reducible refine (HNum.out _ HWd.out).mono ?_); rintro e w1 ⟨rfl, hW2, hK2⟩; have HWa := hid hW2; have HK2 := hid hK2; have HB2 := hid (hK2.oth b _ _ HBd.out (HWd.out.ne HBd.out (by decide) (by decide)) (by decide)); have HG2 := hid (hK2.oth g _ _ HGd.out (HWd.out.ne HGd.out (by decide) (by decide)) (by decide)); have fb := HB2.out.frozen ((j + 1)); have cb2 := CBN.out _ HB2.out; clear hW2 hK2))
        all_goals
          have HW2 := hid (HWa.out.far HB2.out (by decide) (by decide) (by decide) ((j + 1)) (.int .i32 (IntKind.i32.wrap r1)))
          have HBm2 : Hid (At (w1.setCell ⟨b, (j + 1), none⟩ (.int .i32 (IntKind.i32.wrap r1))) b (cs1.set ((j + 1)) (.int .i32 (IntKind.i32.wrap r1))).toArray 33) := hid (by
            have h := heap_setCell_same w1 b ((j + 1)) _ _ (.int .i32 (IntKind.i32.wrap r1)) HB2.out
            unfold At
            rw [h, list_set])
          have HGm2 := hid (at_far (j := (j + 1)) HG2.out (show g ≠ b from fun e => by subst e; exact absurd (at_type HG2.out HB2.out) (by decide)) (.int .i32 (IntKind.i32.wrap r1)))
          have HO2 := hid ((HOd.out.trans HK2.out.old).setCell (p := ⟨b, (j + 1), none⟩) hnb (.int .i32 (IntKind.i32.wrap r1)))
          have HC2 : Hid (∀ j' ∈ js, Okc .i32 (-2147483648) 2147483647 (cs1.set ((j + 1)) (.int .i32 (IntKind.i32.wrap r1))) j' ∧ Okc .i32 (-2147483648) 2147483647 (cs1.set ((j + 1)) (.int .i32 (IntKind.i32.wrap r1))) (j' + 1)) := hid (fun j' hj' => ⟨okc_set (HC1.out j' hj').1 (i32_bd _).1 (i32_bd _).2, okc_set (HC1.out j' hj').2 (i32_bd _).1 (i32_bd _).2⟩)
          generalize World.setCell w1 _ _ = v2 at HW2 HBm2 HGm2 HO2 ⊢
          generalize hcs : cs1.set ((j + 1)) (.int .i32 (IntKind.i32.wrap r1)) = cs2 at HBm2 HC2 HX1
          clear fb cb2 cb HB2 HG2 HWa HK2 HWd HBd HGd HOd HNum hcs CBN
          go_wp2_with fail
          go_roundw
          case rel => exact ⟨i + 1, hlt, by go_num, by rw [HE.out, show atV true (cs0, σ0) j = atZ true (atZ true (cs0, σ0) j) (j + 1) from rfl, HX0.out, HX1.out]; exact HW2.out, by rw [HE.out, show atV true (cs0, σ0) j = atZ true (atZ true (cs0, σ0) j) (j + 1) from rfl, HX0.out, HX1.out]; exact HBm2.out, HGm2.out, HO2.out, by rw [HE.out, show atV true (cs0, σ0) j = atZ true (atZ true (cs0, σ0) j) (j + 1) from rfl, HX0.out, HX1.out]; have := HLen0.out; have := HLen1.out; show σ2.length ≤ _; omega, by rw [HE.out, show atV true (cs0, σ0) j = atZ true (atZ true (cs0, σ0) j) (j + 1) from rfl, HX0.out, HX1.out]; exact HC2.out⟩
          case measure => simp [intOf]; omega
    · have hi2 : i = js.length := by omega
      subst hi2
      rw [List.take_length] at hW hB
      have HWf := hid hW
      have HBf := hid hB
      have HOf := hid hO
      clear hW hB hG hC hO hN
      go_wp2_with fail
      go_end0
      exact ⟨rfl, HWf.out, HBf.out, HOf.out⟩

end Go.Proofs.Ythbncbdnpeglfaa.Fz
