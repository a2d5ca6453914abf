/- Numbers walked (layer 13, freeze). -/
import Derived.Test.YthbncbdnpeglfaaFzWk
import Derived.IntWalk
namespace Go.Proofs.Ythbncbdnpeglfaa.Fz
open Go.RowKit
open Go.Proofs.Ythbncbdnpeglfaa.Ev (At)
open Go.Proofs.Ythbncbdnpeglfaa.Gm (hid Pl Bu St plC buC stC zeroP zeroB zeroS plS setP shS setS)
open Go.Proofs.Ythbncbdnpeglfaa.Pk (numL rdN sgnN unsN rd_num num_lt num_pos rd_back rd_bd uns_sgn sgn_uns sgn_bd uns_bd num_len10)
set_option linter.unusedVariables false

/-- a number of this kind stands there. -/
def Okc (kd : IntKind) (lo hi : Int) (cs : List Value) (j : Nat) : Prop := ∃ x, cs[j]? = some (.int kd x) ∧ lo ≤ x ∧ x ≤ hi
theorem okc_set {kd : IntKind} {lo hi : Int} {cs : List Value} {j i : Nat} {y : Int} (h : Okc kd lo hi cs j) (h0 : lo ≤ y) (h1 : y ≤ hi) : Okc kd lo hi (cs.set i (.int kd y)) j := by
  obtain ⟨x, hx, a, b⟩ := h
  by_cases e : i = j
  · subst e
    exact ⟨y, by rw [List.getElem?_set_self (List.getElem?_eq_some_iff.1 hx).1], h0, h1⟩
  · exact ⟨x, by rw [List.getElem?_set_ne e]; exact hx, a, b⟩
theorem okc_at {kd : IntKind} {lo hi : Int} {cs : List Value} {j : Nat} (h : Okc kd lo hi cs j) : cs[j]? = some (.int kd (intAt cs j)) ∧ lo ≤ intAt cs j ∧ intAt cs j ≤ hi := by
  obtain ⟨x, hx, a, b⟩ := h
  have e : intAt cs j = x := by unfold intAt; rw [hx]
  rw [e]
  exact ⟨hx, a, b⟩
/-- pointers into a block. -/
def ptrs (b : Nat) (js : List Nat) : List Value := js.map fun j => .pointer (some ⟨b, j, none⟩)
theorem ptrs_at {b : Nat} {js : List Nat} {i j : Nat} (h : js[i]? = some j) : (ptrs b js)[i]? = some (.pointer (some ⟨b, j, none⟩)) := by unfold ptrs; rw [List.getElem?_map, h]; rfl
theorem fold_take {α β : Type} (f : β → α → β) (q : β) (l : List α) {i : Nat} {a : α} (h : l[i]? = some a) : (l.take (i + 1)).foldl f q = f ((l.take i).foldl f q) a := by
  rw [List.take_add_one, h, List.foldl_append]
  rfl
theorem i64_bd (y : Int) : -9223372036854775808 ≤ IntKind.i64.wrap y ∧ IntKind.i64.wrap y ≤ 9223372036854775807 := by
  rw [IntKind.wrap_i64]
  omega
theorem u32_bd (y : Int) : 0 ≤ IntKind.u32.wrap y ∧ IntKind.u32.wrap y ≤ 4294967295 := by
  rw [IntKind.wrap_u32]
  omega
theorem i32_bd (y : Int) : -2147483648 ≤ IntKind.i32.wrap y ∧ IntKind.i32.wrap y ≤ 2147483647 := by
  rw [IntKind.wrap_i32]
  omega
theorem at_type {w : World} {b : Nat} {cs ds : Array Value} {T U : TypeId} (h : At w b cs T) (k : At w b ds U) : T = U := by
  have h2 : w.heap[b]? = some (.cells cs T (0, 0)) := h
  have := h2.symm.trans k
  simp at this
  exact this.2
theorem list_set {cs : List Value} {j : Nat} {v : Value} : cs.toArray.setIfInBounds j v = (cs.set j v).toArray := by simp

set_option maxRecDepth 100000 in
set_option maxHeartbeats 4000000 in
theorem numWI_c (n q b g : Nat) (js : List Nat) (cs : List Value) (σ : List UInt8) (w : World) (hW : Wk false n q σ w) (hb : At w b cs.toArray 33) (hnb : n ≤ b) (hg : At w g (ptrs b js).toArray 88)
    (hjs : ∀ j ∈ js, Okc .i64 (-9223372036854775808) 9223372036854775807 cs j) (hl : σ.length + 10 * js.length ≤ 1073741824) :
    Calls Try.prog 33 #[.iface 60 (.pointer (some ⟨q, 0, none⟩)), .slice (some ⟨g, 0, none⟩) js.length js.length] w fun e w' => e = .returned (.tuple #[]) ∧ Wk false n q (js.foldl (atI false) (cs, σ)).2 w' ∧ At w' b (js.foldl (atI false) (cs, σ)).1.toArray 33 ∧ Below n w w' := by
  have hjl : (js.length : Int) ≤ 107374182 := by omega
  have HL := hid hl
  have HJ := hid hjs
  have H0 := hid hW
  have HB0 := hid hb
  have HG0 := hid hg
  clear hl hjs hW hb hg
  go_enter Try.func33, Try.ntmps33
  go_wp2_with fail
  go_loopw [8] (fun v wr => ∃ i : Nat, i ≤ js.length ∧ v = .int .i64 i ∧ Wk false n q ((js.take i).foldl (atI false) (cs, σ)).2 wr ∧ At wr b ((js.take i).foldl (atI false) (cs, σ)).1.toArray 33 ∧ At wr g (ptrs b js).toArray 88 ∧ Below n w wr ∧ (((js.take i).foldl (atI false) (cs, σ)).2.length ≤ σ.length + 10 * i) ∧ ∀ j ∈ js, Okc .i64 (-9223372036854775808) 9223372036854775807 ((js.take i).foldl (atI false) (cs, σ)).1 j) (fun v _ => js.length - (intOf v).toNat)
  case atStart => exact ⟨0, Nat.zero_le _, rfl, H0.out, HB0.out, HG0.out, Below.refl _ _, by simp, HJ.out⟩
  case round =>
    obtain ⟨i, hi, rfl, hW, hB, hG, hO, hN, hC⟩ := hrel
    by_cases hlt : i < js.length
    · obtain ⟨j, hj⟩ : ∃ j, js[i]? = some j := ⟨_, List.getElem?_eq_getElem hlt⟩
      have hjm : j ∈ js := List.mem_of_getElem? hj
      have HE := hid (fold_take (atI false) (cs, σ) js hj)
      obtain ⟨hc1, hc2, hc3⟩ := okc_at (hC j hjm)
      generalize hq : (js.take i).foldl (atI false) (cs, σ) = qq at *
      obtain ⟨cs1, σ1⟩ := qq
      dsimp only at hW hB hG hN hC hc1 hc2 hc3
      clear hq
      have HW1 := hid hW
      have HB1 := hid hB
      have HG1 := hid hG
      have HC1 := hid hC
      have HO1 := hid hO
      have HX : Hid (atI false (cs1, σ1) j = (cs1.set j (.int .i64 (i64W false σ1 (intAt cs1 j)).1), (i64W false σ1 (intAt cs1 j)).2)) := hid rfl
      generalize intAt cs1 j = x at hc1 hc2 hc3 HX
      have hi0 : (0 : Int) ≤ (i : Int) := by omega
      have hi1 : (i : Int) < js.length := by omega
      have cg : wr.cell? ⟨g, i, none⟩ = some (.pointer (some ⟨b, j, none⟩)) := by
        rw [cell_of_row wr g i _ _ _ hG]
        exact (List.getElem?_toArray).trans (ptrs_at hj)
      have cb : wr.cell? ⟨b, j, none⟩ = some (.int .i64 x) := by
        rw [cell_of_row wr b j _ _ _ hB]
        exact (List.getElem?_toArray).trans hc1
      have hxm : (x % 18446744073709551616).toNat < 18446744073709551616 := by omega
      have HLen := hid (len_N false σ1 _ hxm)
      have HBdN := hid (bd_N false σ1 _ hxm)
      have hNl : σ1.length ≤ 1073741824 := by have := HL.out; omega
      have hy : IntKind.u64.wrap x = ((x % 18446744073709551616).toNat : Int) := by rw [IntKind.wrap_u64]; omega
      have HNum := hid (fun (W : World) (hW : Wk false n q σ1 W) => num_w n q σ1 _ _ W hy hW hxm hNl)
      clear hy
      have hX : i64W false σ1 x = (IntKind.i64.wrap (nxN false σ1 (x % 18446744073709551616).toNat).1, (nxN false σ1 (x % 18446744073709551616).toNat).2) := rfl
      rw [hX] at HX
      clear hX hW hB hG hC hO
      generalize nxN false σ1 (x % 18446744073709551616).toNat = r at HNum HLen HX HBdN
      obtain ⟨r1, r2⟩ := r
      dsimp only at HNum HLen HX HBdN
      have NA : ∀ (a : Addr) (W : World), (nilAhead 244 60 (.pointer (some a)) "promptbook/freeze.number").run Try.prog W = .ok (some false) W := fun a W => by kernel_rfl
      have MN : ∀ (a : Addr) (W : World), (method 244 60 (.pointer (some a)) "promptbook/freeze.number").run Try.prog W = .ok (72, .pointer (some a)) W := fun a W => by kernel_rfl
      go_upto_region 3 with fail
      have HWd := hid (HW1.out.below (Below.drew (Below.refl _ wr)))
      have HBd := hid (HB1.out.below (Below.drew (Below.refl _ wr)))
      have HGd := hid (HG1.out.below (Below.drew (Below.refl _ wr)))
      have HOd := hid (HO1.out.trans ((Below.drew (Below.refl _ wr)).mono HW1.out.1))
      have cbn := fun (W : World) (h : At W b cs1.toArray 33) => (cell_of_row W b j _ _ _ h).trans ((List.getElem?_toArray).trans hc1)
      have CBN := hid cbn
      clear cbn hc1
      go_region_with (go_at_call 72; ((with_reducible refine (HNum.out _ HWd.out).mono ?_); rintro e w1 ⟨rfl, hW2, hK2⟩; have HW2 := hid hW2; have HK2 := hid hK2; have HB2 := hid (hK2.oth b _ _ HBd.out (HWd.out.ne HBd.out (by decide) (by decide)) (by decide)); have HG2 := hid (hK2.oth g _ _ HGd.out (HWd.out.ne HGd.out (by decide) (by decide)) (by decide)); have fb := HB2.out.frozen j; have cb2 := CBN.out _ HB2.out; clear hW2 hK2))
      all_goals
        have HWf := hid (HW2.out.far HB2.out (by decide) (by decide) (by decide) j (.int .i64 (IntKind.i64.wrap (r1 : Int))))
        have HBf : Hid (At (w1.setCell ⟨b, j, none⟩ (.int .i64 (IntKind.i64.wrap (r1 : Int)))) b (cs1.set j (.int .i64 (IntKind.i64.wrap (r1 : Int)))).toArray 33) := hid (by
          have h := heap_setCell_same w1 b j _ _ (.int .i64 (IntKind.i64.wrap (r1 : Int))) HB2.out
          unfold At
          rw [h, list_set])
        have HGf := hid (at_far (j := j) HG2.out (show g ≠ b from fun e => by subst e; exact absurd (at_type HG2.out HB2.out) (by decide)) (.int .i64 (IntKind.i64.wrap (r1 : Int))))
        have HOf := hid ((HOd.out.trans HK2.out.old).setCell (p := ⟨b, j, none⟩) hnb (.int .i64 (IntKind.i64.wrap (r1 : Int))))
        generalize World.setCell w1 _ _ = w2 at HWf HBf HGf HOf ⊢
        clear fb cb2 cg cb HB2 HG2 HW2 HK2 HWd HBd HGd HOd HNum
        go_wp2_with fail
        go_roundw
        case rel => exact ⟨i + 1, hlt, by go_num, by rw [HE.out, HX.out]; exact HWf.out, by rw [HE.out, HX.out]; exact HBf.out, HGf.out, HOf.out, by rw [HE.out, HX.out]; have := HLen.out; show r2.length ≤ _; omega, fun j' hj' => by rw [HE.out, HX.out]; exact okc_set (HC1.out j' hj') (i64_bd _).1 (i64_bd _).2⟩
        case measure => simp [intOf]; omega
    · have hi2 : i = js.length := by omega
      subst hi2
      rw [List.take_length] at hW hB
      have HWf := hid hW
      have HBf := hid hB
      have HOf := hid hO
      clear hW hB hG hC hO hN
      go_wp2_with fail
      go_end0
      exact ⟨rfl, HWf.out, HBf.out, HOf.out⟩


set_option maxRecDepth 100000 in
set_option maxHeartbeats 4000000 in
theorem numWU_c (n q b g : Nat) (js : List Nat) (cs : List Value) (σ : List UInt8) (w : World) (hW : Wk false n q σ w) (hb : At w b cs.toArray 33) (hnb : n ≤ b) (hg : At w g (ptrs b js).toArray 90)
    (hjs : ∀ j ∈ js, Okc .u32 (0) 4294967295 cs j) (hl : σ.length + 10 * js.length ≤ 1073741824) :
    Calls Try.prog 34 #[.iface 60 (.pointer (some ⟨q, 0, none⟩)), .slice (some ⟨g, 0, none⟩) js.length js.length] w fun e w' => e = .returned (.tuple #[]) ∧ Wk false n q (js.foldl (atU false) (cs, σ)).2 w' ∧ At w' b (js.foldl (atU false) (cs, σ)).1.toArray 33 ∧ Below n w w' := by
  have hjl : (js.length : Int) ≤ 107374182 := by omega
  have HL := hid hl
  have HJ := hid hjs
  have H0 := hid hW
  have HB0 := hid hb
  have HG0 := hid hg
  clear hl hjs hW hb hg
  go_enter Try.func34, Try.ntmps34
  go_wp2_with fail
  go_loopw [8] (fun v wr => ∃ i : Nat, i ≤ js.length ∧ v = .int .i64 i ∧ Wk false n q ((js.take i).foldl (atU false) (cs, σ)).2 wr ∧ At wr b ((js.take i).foldl (atU false) (cs, σ)).1.toArray 33 ∧ At wr g (ptrs b js).toArray 90 ∧ Below n w wr ∧ (((js.take i).foldl (atU false) (cs, σ)).2.length ≤ σ.length + 10 * i) ∧ ∀ j ∈ js, Okc .u32 (0) 4294967295 ((js.take i).foldl (atU false) (cs, σ)).1 j) (fun v _ => js.length - (intOf v).toNat)
  case atStart => exact ⟨0, Nat.zero_le _, rfl, H0.out, HB0.out, HG0.out, Below.refl _ _, by simp, HJ.out⟩
  case round =>
    obtain ⟨i, hi, rfl, hW, hB, hG, hO, hN, hC⟩ := hrel
    by_cases hlt : i < js.length
    · obtain ⟨j, hj⟩ : ∃ j, js[i]? = some j := ⟨_, List.getElem?_eq_getElem hlt⟩
      have hjm : j ∈ js := List.mem_of_getElem? hj
      have HE := hid (fold_take (atU false) (cs, σ) js hj)
      obtain ⟨hc1, hc2, hc3⟩ := okc_at (hC j hjm)
      generalize hq : (js.take i).foldl (atU false) (cs, σ) = qq at *
      obtain ⟨cs1, σ1⟩ := qq
      dsimp only at hW hB hG hN hC hc1 hc2 hc3
      clear hq
      have HW1 := hid hW
      have HB1 := hid hB
      have HG1 := hid hG
      have HC1 := hid hC
      have HO1 := hid hO
      have HX : Hid (atU false (cs1, σ1) j = (cs1.set j (.int .u32 (u32W false σ1 (intAt cs1 j)).1), (u32W false σ1 (intAt cs1 j)).2)) := hid rfl
      generalize intAt cs1 j = x at hc1 hc2 hc3 HX
      have hi0 : (0 : Int) ≤ (i : Int) := by omega
      have hi1 : (i : Int) < js.length := by omega
      have cg : wr.cell? ⟨g, i, none⟩ = some (.pointer (some ⟨b, j, none⟩)) := by
        rw [cell_of_row wr g i _ _ _ hG]
        exact (List.getElem?_toArray).trans (ptrs_at hj)
      have cb : wr.cell? ⟨b, j, none⟩ = some (.int .u32 x) := by
        rw [cell_of_row wr b j _ _ _ hB]
        exact (List.getElem?_toArray).trans hc1
      have hxm : (x % 18446744073709551616).toNat < 18446744073709551616 := by omega
      have HLen := hid (len_N false σ1 _ hxm)
      have HBdN := hid (bd_N false σ1 _ hxm)
      have hNl : σ1.length ≤ 1073741824 := by have := HL.out; omega
      have hy : IntKind.u64.wrap x = ((x % 18446744073709551616).toNat : Int) := by rw [IntKind.wrap_u64]; omega
      have HNum := hid (fun (W : World) (hW : Wk false n q σ1 W) => num_w n q σ1 _ _ W hy hW hxm hNl)
      clear hy
      have hX : u32W false σ1 x = (IntKind.u32.wrap (nxN false σ1 (x % 18446744073709551616).toNat).1, (nxN false σ1 (x % 18446744073709551616).toNat).2) := rfl
      rw [hX] at HX
      clear hX hW hB hG hC hO
      generalize nxN false σ1 (x % 18446744073709551616).toNat = r at HNum HLen HX HBdN
      obtain ⟨r1, r2⟩ := r
      dsimp only at HNum HLen HX HBdN
      have NA : ∀ (a : Addr) (W : World), (nilAhead 244 60 (.pointer (some a)) "promptbook/freeze.number").run Try.prog W = .ok (some false) W := fun a W => by kernel_rfl
      have MN : ∀ (a : Addr) (W : World), (method 244 60 (.pointer (some a)) "promptbook/freeze.number").run Try.prog W = .ok (72, .pointer (some a)) W := fun a W => by kernel_rfl
      go_upto_region 3 with fail
      have HWd := hid (HW1.out.below (Below.drew (Below.refl _ wr)))
      have HBd := hid (HB1.out.below (Below.drew (Below.refl _ wr)))
      have HGd := hid (HG1.out.below (Below.drew (Below.refl _ wr)))
      have HOd := hid (HO1.out.trans ((Below.drew (Below.refl _ wr)).mono HW1.out.1))
      have cbn := fun (W : World) (h : At W b cs1.toArray 33) => (cell_of_row W b j _ _ _ h).trans ((List.getElem?_toArray).trans hc1)
      have CBN := hid cbn
      clear cbn hc1
      go_region_with (go_at_call 72; ((with_reducible refine (HNum.out _ HWd.out).mono ?_); rintro e w1 ⟨rfl, hW2, hK2⟩; have HW2 := hid hW2; have HK2 := hid hK2; have HB2 := hid (hK2.oth b _ _ HBd.out (HWd.out.ne HBd.out (by decide) (by decide)) (by decide)); have HG2 := hid (hK2.oth g _ _ HGd.out (HWd.out.ne HGd.out (by decide) (by decide)) (by decide)); have fb := HB2.out.frozen j; have cb2 := CBN.out _ HB2.out; clear hW2 hK2))
      all_goals
        have HWf := hid (HW2.out.far HB2.out (by decide) (by decide) (by decide) j (.int .u32 (IntKind.u32.wrap (r1 : Int))))
        have HBf : Hid (At (w1.setCell ⟨b, j, none⟩ (.int .u32 (IntKind.u32.wrap (r1 : Int)))) b (cs1.set j (.int .u32 (IntKind.u32.wrap (r1 : Int)))).toArray 33) := hid (by
          have h := heap_setCell_same w1 b j _ _ (.int .u32 (IntKind.u32.wrap (r1 : Int))) HB2.out
          unfold At
          rw [h, list_set])
        have HGf := hid (at_far (j := j) HG2.out (show g ≠ b from fun e => by subst e; exact absurd (at_type HG2.out HB2.out) (by decide)) (.int .u32 (IntKind.u32.wrap (r1 : Int))))
        have HOf := hid ((HOd.out.trans HK2.out.old).setCell (p := ⟨b, j, none⟩) hnb (.int .u32 (IntKind.u32.wrap (r1 : Int))))
        generalize World.setCell w1 _ _ = w2 at HWf HBf HGf HOf ⊢
        clear fb cb2 cg cb HB2 HG2 HW2 HK2 HWd HBd HGd HOd HNum
        go_wp2_with fail
        go_roundw
        case rel => exact ⟨i + 1, hlt, by go_num, by rw [HE.out, HX.out]; exact HWf.out, by rw [HE.out, HX.out]; exact HBf.out, HGf.out, HOf.out, by rw [HE.out, HX.out]; have := HLen.out; show r2.length ≤ _; omega, fun j' hj' => by rw [HE.out, HX.out]; exact okc_set (HC1.out j' hj') (u32_bd _).1 (u32_bd _).2⟩
        case measure => simp [intOf]; omega
    · have hi2 : i = js.length := by omega
      subst hi2
      rw [List.take_length] at hW hB
      have HWf := hid hW
      have HBf := hid hB
      have HOf := hid hO
      clear hW hB hG hC hO hN
      go_wp2_with fail
      go_end0
      exact ⟨rfl, HWf.out, HBf.out, HOf.out⟩


set_option maxRecDepth 100000 in
set_option maxHeartbeats 4000000 in
theorem numRI_c (n q b g : Nat) (js : List Nat) (cs : List Value) (σ : List UInt8) (w : World) (hW : Wk true n q σ w) (hb : At w b cs.toArray 33) (hnb : n ≤ b) (hg : At w g (ptrs b js).toArray 88)
    (hjs : ∀ j ∈ js, Okc .i64 (-9223372036854775808) 9223372036854775807 cs j) (hl : σ.length + 10 * js.length ≤ 1073741824) :
    Calls Try.prog 33 #[.iface 68 (.pointer (some ⟨q, 0, none⟩)), .slice (some ⟨g, 0, none⟩) js.length js.length] w fun e w' => e = .returned (.tuple #[]) ∧ Wk true n q (js.foldl (atI true) (cs, σ)).2 w' ∧ At w' b (js.foldl (atI true) (cs, σ)).1.toArray 33 ∧ Below n w w' := by
  have hjl : (js.length : Int) ≤ 107374182 := by omega
  have HL := hid hl
  have HJ := hid hjs
  have H0 := hid hW
  have HB0 := hid hb
  have HG0 := hid hg
  clear hl hjs hW hb hg
  go_enter Try.func33, Try.ntmps33
  go_wp2_with fail
  go_loopw [8] (fun v wr => ∃ i : Nat, i ≤ js.length ∧ v = .int .i64 i ∧ Wk true n q ((js.take i).foldl (atI true) (cs, σ)).2 wr ∧ At wr b ((js.take i).foldl (atI true) (cs, σ)).1.toArray 33 ∧ At wr g (ptrs b js).toArray 88 ∧ Below n w wr ∧ (((js.take i).foldl (atI true) (cs, σ)).2.length ≤ σ.length + 10 * i) ∧ ∀ j ∈ js, Okc .i64 (-9223372036854775808) 9223372036854775807 ((js.take i).foldl (atI true) (cs, σ)).1 j) (fun v _ => js.length - (intOf v).toNat)
  case atStart => exact ⟨0, Nat.zero_le _, rfl, H0.out, HB0.out, HG0.out, Below.refl _ _, by simp, HJ.out⟩
  case round =>
    obtain ⟨i, hi, rfl, hW, hB, hG, hO, hN, hC⟩ := hrel
    by_cases hlt : i < js.length
    · obtain ⟨j, hj⟩ : ∃ j, js[i]? = some j := ⟨_, List.getElem?_eq_getElem hlt⟩
      have hjm : j ∈ js := List.mem_of_getElem? hj
      have HE := hid (fold_take (atI true) (cs, σ) js hj)
      obtain ⟨hc1, hc2, hc3⟩ := okc_at (hC j hjm)
      generalize hq : (js.take i).foldl (atI true) (cs, σ) = qq at *
      obtain ⟨cs1, σ1⟩ := qq
      dsimp only at hW hB hG hN hC hc1 hc2 hc3
      clear hq
      have HW1 := hid hW
      have HB1 := hid hB
      have HG1 := hid hG
      have HC1 := hid hC
      have HO1 := hid hO
      have HX : Hid (atI true (cs1, σ1) j = (cs1.set j (.int .i64 (i64W true σ1 (intAt cs1 j)).1), (i64W true σ1 (intAt cs1 j)).2)) := hid rfl
      generalize intAt cs1 j = x at hc1 hc2 hc3 HX
      have hi0 : (0 : Int) ≤ (i : Int) := by omega
      have hi1 : (i : Int) < js.length := by omega
      have cg : wr.cell? ⟨g, i, none⟩ = some (.pointer (some ⟨b, j, none⟩)) := by
        rw [cell_of_row wr g i _ _ _ hG]
        exact (List.getElem?_toArray).trans (ptrs_at hj)
      have cb : wr.cell? ⟨b, j, none⟩ = some (.int .i64 x) := by
        rw [cell_of_row wr b j _ _ _ hB]
        exact (List.getElem?_toArray).trans hc1
      have hxm : (x % 18446744073709551616).toNat < 18446744073709551616 := by omega
      have HLen := hid (len_N true σ1 _ hxm)
      have HBdN := hid (bd_N true σ1 _ hxm)
      have hNl : σ1.length ≤ 1073741824 := by have := HL.out; omega
      have hy : IntKind.u64.wrap x = ((x % 18446744073709551616).toNat : Int) := by rw [IntKind.wrap_u64]; omega
      have HNum := hid (fun (W : World) (hW : Wk true n q σ1 W) => num_r n q σ1 _ _ W hy hW hxm hNl)
      clear hy
      have hX : i64W true σ1 x = (IntKind.i64.wrap (nxN true σ1 (x % 18446744073709551616).toNat).1, (nxN true σ1 (x % 18446744073709551616).toNat).2) := rfl
      rw [hX] at HX
      clear hX hW hB hG hC hO
      generalize nxN true σ1 (x % 18446744073709551616).toNat = r at HNum HLen HX HBdN
      obtain ⟨r1, r2⟩ := r
      dsimp only at HNum HLen HX HBdN
      have NA : ∀ (a : Addr) (W : World), (nilAhead 244 68 (.pointer (some a)) "promptbook/freeze.number").run Try.prog W = .ok (some false) W := fun a W => by kernel_rfl
      have MN : ∀ (a : Addr) (W : World), (method 244 68 (.pointer (some a)) "promptbook/freeze.number").run Try.prog W = .ok (82, .pointer (some a)) W := fun a W => by kernel_rfl
      go_upto_region 3 with fail
      have HWd := hid (HW1.out.below (Below.drew (Below.refl _ wr)))
      have HBd := hid (HB1.out.below (Below.drew (Below.refl _ wr)))
      have HGd := hid (HG1.out.below (Below.drew (Below.refl _ wr)))
      have HOd := hid (HO1.out.trans ((Below.drew (Below.refl _ wr)).mono HW1.out.1))
      have cbn := fun (W : World) (h : At W b cs1.toArray 33) => (cell_of_row W b j _ _ _ h).trans ((List.getElem?_toArray).trans hc1)
      have CBN := hid cbn
      clear cbn hc1
      go_region_with (go_at_call 82; ((with_reducible refine (HNum.out _ HWd.out).mono ?_); rintro e w1 ⟨rfl, hW2, hK2⟩; have HW2 := hid hW2; have HK2 := hid hK2; have HB2 := hid (hK2.oth b _ _ HBd.out (HWd.out.ne HBd.out (by decide) (by decide)) (by decide)); have HG2 := hid (hK2.oth g _ _ HGd.out (HWd.out.ne HGd.out (by decide) (by decide)) (by decide)); have fb := HB2.out.frozen j; have cb2 := CBN.out _ HB2.out; clear hW2 hK2))
      all_goals
        have HWf := hid (HW2.out.far HB2.out (by decide) (by decide) (by decide) j (.int .i64 (IntKind.i64.wrap (r1 : Int))))
        have HBf : Hid (At (w1.setCell ⟨b, j, none⟩ (.int .i64 (IntKind.i64.wrap (r1 : Int)))) b (cs1.set j (.int .i64 (IntKind.i64.wrap (r1 : Int)))).toArray 33) := hid (by
          have h := heap_setCell_same w1 b j _ _ (.int .i64 (IntKind.i64.wrap (r1 : Int))) HB2.out
          unfold At
          rw [h, list_set])
        have HGf := hid (at_far (j := j) HG2.out (show g ≠ b from fun e => by subst e; exact absurd (at_type HG2.out HB2.out) (by decide)) (.int .i64 (IntKind.i64.wrap (r1 : Int))))
        have HOf := hid ((HOd.out.trans HK2.out.old).setCell (p := ⟨b, j, none⟩) hnb (.int .i64 (IntKind.i64.wrap (r1 : Int))))
        generalize World.setCell w1 _ _ = w2 at HWf HBf HGf HOf ⊢
        clear fb cb2 cg cb HB2 HG2 HW2 HK2 HWd HBd HGd HOd HNum
        go_wp2_with fail
        go_roundw
        case rel => exact ⟨i + 1, hlt, by go_num, by rw [HE.out, HX.out]; exact HWf.out, by rw [HE.out, HX.out]; exact HBf.out, HGf.out, HOf.out, by rw [HE.out, HX.out]; have := HLen.out; show r2.length ≤ _; omega, fun j' hj' => by rw [HE.out, HX.out]; exact okc_set (HC1.out j' hj') (i64_bd _).1 (i64_bd _).2⟩
        case measure => simp [intOf]; omega
    · have hi2 : i = js.length := by omega
      subst hi2
      rw [List.take_length] at hW hB
      have HWf := hid hW
      have HBf := hid hB
      have HOf := hid hO
      clear hW hB hG hC hO hN
      go_wp2_with fail
      go_end0
      exact ⟨rfl, HWf.out, HBf.out, HOf.out⟩


set_option maxRecDepth 100000 in
set_option maxHeartbeats 4000000 in
theorem numRU_c (n q b g : Nat) (js : List Nat) (cs : List Value) (σ : List UInt8) (w : World) (hW : Wk true n q σ w) (hb : At w b cs.toArray 33) (hnb : n ≤ b) (hg : At w g (ptrs b js).toArray 90)
    (hjs : ∀ j ∈ js, Okc .u32 (0) 4294967295 cs j) (hl : σ.length + 10 * js.length ≤ 1073741824) :
    Calls Try.prog 34 #[.iface 68 (.pointer (some ⟨q, 0, none⟩)), .slice (some ⟨g, 0, none⟩) js.length js.length] w fun e w' => e = .returned (.tuple #[]) ∧ Wk true n q (js.foldl (atU true) (cs, σ)).2 w' ∧ At w' b (js.foldl (atU true) (cs, σ)).1.toArray 33 ∧ Below n w w' := by
  have hjl : (js.length : Int) ≤ 107374182 := by omega
  have HL := hid hl
  have HJ := hid hjs
  have H0 := hid hW
  have HB0 := hid hb
  have HG0 := hid hg
  clear hl hjs hW hb hg
  go_enter Try.func34, Try.ntmps34
  go_wp2_with fail
  go_loopw [8] (fun v wr => ∃ i : Nat, i ≤ js.length ∧ v = .int .i64 i ∧ Wk true n q ((js.take i).foldl (atU true) (cs, σ)).2 wr ∧ At wr b ((js.take i).foldl (atU true) (cs, σ)).1.toArray 33 ∧ At wr g (ptrs b js).toArray 90 ∧ Below n w wr ∧ (((js.take i).foldl (atU true) (cs, σ)).2.length ≤ σ.length + 10 * i) ∧ ∀ j ∈ js, Okc .u32 (0) 4294967295 ((js.take i).foldl (atU true) (cs, σ)).1 j) (fun v _ => js.length - (intOf v).toNat)
  case atStart => exact ⟨0, Nat.zero_le _, rfl, H0.out, HB0.out, HG0.out, Below.refl _ _, by simp, HJ.out⟩
  case round =>
    obtain ⟨i, hi, rfl, hW, hB, hG, hO, hN, hC⟩ := hrel
    by_cases hlt : i < js.length
    · obtain ⟨j, hj⟩ : ∃ j, js[i]? = some j := ⟨_, List.getElem?_eq_getElem hlt⟩
      have hjm : j ∈ js := List.mem_of_getElem? hj
      have HE := hid (fold_take (atU true) (cs, σ) js hj)
      obtain ⟨hc1, hc2, hc3⟩ := okc_at (hC j hjm)
      generalize hq : (js.take i).foldl (atU true) (cs, σ) = qq at *
      obtain ⟨cs1, σ1⟩ := qq
      dsimp only at hW hB hG hN hC hc1 hc2 hc3
      clear hq
      have HW1 := hid hW
      have HB1 := hid hB
      have HG1 := hid hG
      have HC1 := hid hC
      have HO1 := hid hO
      have HX : Hid (atU true (cs1, σ1) j = (cs1.set j (.int .u32 (u32W true σ1 (intAt cs1 j)).1), (u32W true σ1 (intAt cs1 j)).2)) := hid rfl
      generalize intAt cs1 j = x at hc1 hc2 hc3 HX
      have hi0 : (0 : Int) ≤ (i : Int) := by omega
      have hi1 : (i : Int) < js.length := by omega
      have cg : wr.cell? ⟨g, i, none⟩ = some (.pointer (some ⟨b, j, none⟩)) := by
        rw [cell_of_row wr g i _ _ _ hG]
        exact (List.getElem?_toArray).trans (ptrs_at hj)
      have cb : wr.cell? ⟨b, j, none⟩ = some (.int .u32 x) := by
        rw [cell_of_row wr b j _ _ _ hB]
        exact (List.getElem?_toArray).trans hc1
      have hxm : (x % 18446744073709551616).toNat < 18446744073709551616 := by omega
      have HLen := hid (len_N true σ1 _ hxm)
      have HBdN := hid (bd_N true σ1 _ hxm)
      have hNl : σ1.length ≤ 1073741824 := by have := HL.out; omega
      have hy : IntKind.u64.wrap x = ((x % 18446744073709551616).toNat : Int) := by rw [IntKind.wrap_u64]; omega
      have HNum := hid (fun (W : World) (hW : Wk true n q σ1 W) => num_r n q σ1 _ _ W hy hW hxm hNl)
      clear hy
      have hX : u32W true σ1 x = (IntKind.u32.wrap (nxN true σ1 (x % 18446744073709551616).toNat).1, (nxN true σ1 (x % 18446744073709551616).toNat).2) := rfl
      rw [hX] at HX
      clear hX hW hB hG hC hO
      generalize nxN true σ1 (x % 18446744073709551616).toNat = r at HNum HLen HX HBdN
      obtain ⟨r1, r2⟩ := r
      dsimp only at HNum HLen HX HBdN
      have NA : ∀ (a : Addr) (W : World), (nilAhead 244 68 (.pointer (some a)) "promptbook/freeze.number").run Try.prog W = .ok (some false) W := fun a W => by kernel_rfl
      have MN : ∀ (a : Addr) (W : World), (method 244 68 (.pointer (some a)) "promptbook/freeze.number").run Try.prog W = .ok (82, .pointer (some a)) W := fun a W => by kernel_rfl
      go_upto_region 3 with fail
      have HWd := hid (HW1.out.below (Below.drew (Below.refl _ wr)))
      have HBd := hid (HB1.out.below (Below.drew (Below.refl _ wr)))
      have HGd := hid (HG1.out.below (Below.drew (Below.refl _ wr)))
      have HOd := hid (HO1.out.trans ((Below.drew (Below.refl _ wr)).mono HW1.out.1))
      have cbn := fun (W : World) (h : At W b cs1.toArray 33) => (cell_of_row W b j _ _ _ h).trans ((List.getElem?_toArray).trans hc1)
      have CBN := hid cbn
      clear cbn hc1
      go_region_with (go_at_call 82; ((with_reducible refine (HNum.out _ HWd.out).mono ?_); rintro e w1 ⟨rfl, hW2, hK2⟩; have HW2 := hid hW2; have HK2 := hid hK2; have HB2 := hid (hK2.oth b _ _ HBd.out (HWd.out.ne HBd.out (by decide) (by decide)) (by decide)); have HG2 := hid (hK2.oth g _ _ HGd.out (HWd.out.ne HGd.out (by decide) (by decide)) (by decide)); have fb := HB2.out.frozen j; have cb2 := CBN.out _ HB2.out; clear hW2 hK2))
      all_goals
        have HWf := hid (HW2.out.far HB2.out (by decide) (by decide) (by decide) j (.int .u32 (IntKind.u32.wrap (r1 : Int))))
        have HBf : Hid (At (w1.setCell ⟨b, j, none⟩ (.int .u32 (IntKind.u32.wrap (r1 : Int)))) b (cs1.set j (.int .u32 (IntKind.u32.wrap (r1 : Int)))).toArray 33) := hid (by
          have h := heap_setCell_same w1 b j _ _ (.int .u32 (IntKind.u32.wrap (r1 : Int))) HB2.out
          unfold At
          rw [h, list_set])
        have HGf := hid (at_far (j := j) HG2.out (show g ≠ b from fun e => by subst e; exact absurd (at_type HG2.out HB2.out) (by decide)) (.int .u32 (IntKind.u32.wrap (r1 : Int))))
        have HOf := hid ((HOd.out.trans HK2.out.old).setCell (p := ⟨b, j, none⟩) hnb (.int .u32 (IntKind.u32.wrap (r1 : Int))))
        generalize World.setCell w1 _ _ = w2 at HWf HBf HGf HOf ⊢
        clear fb cb2 cg cb HB2 HG2 HW2 HK2 HWd HBd HGd HOd HNum
        go_wp2_with fail
        go_roundw
        case rel => exact ⟨i + 1, hlt, by go_num, by rw [HE.out, HX.out]; exact HWf.out, by rw [HE.out, HX.out]; exact HBf.out, HGf.out, HOf.out, by rw [HE.out, HX.out]; have := HLen.out; show r2.length ≤ _; omega, fun j' hj' => by rw [HE.out, HX.out]; exact okc_set (HC1.out j' hj') (u32_bd _).1 (u32_bd _).2⟩
        case measure => simp [intOf]; omega
    · have hi2 : i = js.length := by omega
      subst hi2
      rw [List.take_length] at hW hB
      have HWf := hid hW
      have HBf := hid hB
      have HOf := hid hO
      clear hW hB hG hC hO hN
      go_wp2_with fail
      go_end0
      exact ⟨rfl, HWf.out, HBf.out, HOf.out⟩


end Go.Proofs.Ythbncbdnpeglfaa.Fz
