/- The document's bytes of a state (layer 13, freeze). -/
import Derived.Test.YthbncbdnpeglfaaFzCo
import Derived.Test.YthbncbdnpeglfaaFyRr
namespace Go.Proofs.Ythbncbdnpeglfaa.Fz
open Go.RowKit
open Go.Proofs.Ythbncbdnpeglfaa.Ev (At)
open Go.Proofs.Ythbncbdnpeglfaa.Sh (vec)
open Go.Proofs.Ythbncbdnpeglfaa.Gm (hid Pl Bu St plC plA buC buA stC zeroP zeroB zeroS plS setP shS setS rightS takeW at_pl at_bu at_st stC_pk stC_bk wpList_load_at)
open Go.Proofs.Ythbncbdnpeglfaa.Pk (numL rdN sgnN unsN num_pos num_len10 sgn_bd rnumber_i rsigned_c add_run)
set_option linter.unusedVariables false

theorem numB_len (x : Int) (h : x ≤ 9223372036854775807) : (numB x).length ≤ 10 := num_len10 _ (by omega)
theorem sgnB_len (x : Int) (h : R32 x) : (sgnB x).length ≤ 10 := num_len10 _ (sgn_bd x (by unfold R32 at h; omega) (by unfold R32 at h; omega))
theorem vecB_len (x y : Int) (h : R32 x) (h2 : R32 y) : (vecB x y).length ≤ 20 := by
  unfold vecB
  rw [List.length_append]
  have := sgnB_len x h
  have := sgnB_len y h2
  omega
theorem rn_c (x : Int) (w : World) (h0 : 0 ≤ x) (h1 : x ≤ 9223372036854775807) :
    Calls Try.prog 22 #[.int .i64 x] w fun e w' => e = .returned (.string ⟨(numB x).toArray⟩) ∧ Below w.heap.size w w' := by
  have HNm := fun W => rnumber_i x x.toNat W (by omega) (by omega)
  have hwx : x % 18446744073709551616 = x := by omega
  change ∀ W, Calls _ _ _ W (fun e w' => e = .returned (.string ⟨(numB x).toArray⟩) ∧ _) at HNm
  go_enter Try.func22, Try.ntmps22
  go_wp2_with (go_at_call 23; ((with_reducible refine (HNm _).mono ?_); rintro e w' ⟨rfl, hw⟩))
  go_ret
  exact ⟨rfl, hw⟩

theorem add_to {l k m : List UInt8} (h : Hid (m = l ++ k)) (hb : l.length + k.length ≤ 140737488355328) (W : World) : (Op.stringOp .add (⟨l.toArray⟩ : ByteArray) ⟨k.toArray⟩).run Try.prog W = .ok (.string ⟨m.toArray⟩) W := by
  rw [h.out]
  exact add_run l k W hb
theorem len_to {l k m : List UInt8} (h : Hid (m = l ++ k)) : m.length = l.length + k.length := by rw [h.out, List.length_append]

theorem two_cells {w : World} {b : Nat} {x y : Int} (h : At w b #[.int .i32 x, .int .i32 y] 25) : w.cell? ⟨b, 0, none⟩ = some (.int .i32 x) ∧ w.cell? ⟨b, 1, none⟩ = some (.int .i32 y) := by
  have hc := fun j => cell_of_row w b j _ _ _ h
  refine ⟨?_, ?_⟩ <;> (rw [hc]; rfl)

set_option maxRecDepth 100000 in
set_option maxHeartbeats 2000000 in
theorem rv_c (x y : Int) (w : World) (hx : R32 x) (hy : R32 y) :
    Calls Try.prog 24 #[vec x y] w fun e w' => e = .returned (.string ⟨(vecB x y).toArray⟩) ∧ Below w.heap.size w w' := by
  have HA := hid (At.new w #[.int .i32 x, .int .i32 y] 25)
  have HB := hid (Ev.bal (Ev.br w) (.cells #[.int .i32 x, .int .i32 y] 25))
  have HX := fun W => rsigned_c x W (by unfold R32 at hx; omega) (by unfold R32 at hx; omega)
  have HY := fun W => rsigned_c y W (by unfold R32 at hy; omega) (by unfold R32 at hy; omega)
  change ∀ W, Calls _ _ _ W (fun e w' => e = .returned (.string ⟨(sgnB x).toArray⟩) ∧ _) at HX
  change ∀ W, Calls _ _ _ W (fun e w' => e = .returned (.string ⟨(sgnB y).toArray⟩) ∧ _) at HY
  have l1 := sgnB_len x hx
  have l2 := sgnB_len y hy
  have hwx : IntKind.i64.wrap x = x := wrap_i64 (by unfold R32 at hx; unfold R64; omega)
  have hwy : IntKind.i64.wrap y = y := wrap_i64 (by unfold R32 at hy; unfold R64; omega)
  have HV : Hid (vecB x y = sgnB x ++ sgnB y) := hid rfl
  generalize sgnB x = a at HX l1 HV
  generalize sgnB y = b at HY l2 HV
  have ha := fun W => add_run a b W (by omega)
  go_enter Try.func24, Try.ntmps24
  go_upto_region 1 with fail
  generalize World.alloc w _ = w0 at HA HB ⊢
  refine wp_region_noPanic ?_
  refine wp_region_held_drew (S := (fun W => At W w.heap.size #[.int .i32 x, .int .i32 y] 25)) (by kernel_rfl) HA.out.drew (fun hHeld => ?_)
  (refine takeW (i := 0) (d := 3) (v := ?_) rfl rfl (by kernel_rfl) (by kernel_rfl) (by kernel_rfl) (fun _ _ _ h => h) (by rfl) ?_ (by assumption) ?_)
  rotate_left
  · (intro W hSW; go_simp; (try with_reducible rfl))
  simp only [Act.put, List.setIfInBounds_toArray, List.set_cons_zero, List.set_cons_succ]
  (refine takeW (i := 1) (d := 4) (v := ?_) rfl rfl (by kernel_rfl) (by kernel_rfl) (by kernel_rfl) (fun _ _ _ h => h) (by rfl) ?_ (by assumption) ?_)
  rotate_left
  · (intro W hSW; obtain ⟨k0, k1⟩ := two_cells hSW; go_simp; (try with_reducible rfl))
  simp only [Act.put, List.setIfInBounds_toArray, List.set_cons_zero, List.set_cons_succ]
  (refine takeW (i := 2) (d := 5) (v := ?_) rfl rfl (by kernel_rfl) (by kernel_rfl) (by kernel_rfl) (fun _ _ _ h => h) (by rfl) ?_ (by assumption) ?_)
  rotate_left
  · (intro W hSW; go_simp; (try with_reducible rfl))
  simp only [Act.put, List.setIfInBounds_toArray, List.set_cons_zero, List.set_cons_succ]
  (refine takeW (i := 4) (d := 7) (v := ?_) rfl rfl (by kernel_rfl) (by kernel_rfl) (by kernel_rfl) (fun _ _ _ h => h) (by rfl) ?_ (by assumption) ?_)
  rotate_left
  · (intro W hSW; go_simp; (try with_reducible rfl))
  simp only [Act.put, List.setIfInBounds_toArray, List.set_cons_zero, List.set_cons_succ]
  (refine takeW (i := 5) (d := 8) (v := ?_) rfl rfl (by kernel_rfl) (by kernel_rfl) (by kernel_rfl) (fun _ _ _ h => h) (by rfl) ?_ (by assumption) ?_)
  rotate_left
  · (intro W hSW; obtain ⟨k0, k1⟩ := two_cells hSW; go_simp; (try with_reducible rfl))
  simp only [Act.put, List.setIfInBounds_toArray, List.set_cons_zero, List.set_cons_succ]
  (refine takeW (i := 6) (d := 9) (v := ?_) rfl rfl (by kernel_rfl) (by kernel_rfl) (by kernel_rfl) (fun _ _ _ h => h) (by rfl) ?_ (by assumption) ?_)
  rotate_left
  · (intro W hSW; go_simp; (try with_reducible rfl))
  simp only [Act.put, List.setIfInBounds_toArray, List.set_cons_zero, List.set_cons_succ]
  refine wpAnyH_ready (rs := [3]) (by kernel_rfl) (by simp) ?_
  refine AllReadyH.cons (i := 3) rfl (fun K hKK => ?_) AllReadyH.nil
  go_simp
  ((with_reducible refine (HX _).mono ?_); rintro e u3 ⟨rfl, gu⟩)
  (try dsimp only)
  have HN3 := hid (show At u3 w.heap.size #[.int .i32 x, .int .i32 y] 25 ∧ Below w.heap.size w u3 from ⟨HA.out.below (Ev.bt (Ev.bd1 (Ev.br _)) gu), Ev.bt HB.out (Ev.bt (Ev.bd1 (Ev.br _)) gu)⟩)
  clear gu
  refine hKK.out _ _ HN3.out.1 (fun hHeld => ?_)
  clear hKK K
  (try simp only [Act.put, List.setIfInBounds_toArray, List.set_cons_zero, List.set_cons_succ])
  refine wpAnyH_ready (rs := [7]) (by kernel_rfl) (by simp) ?_
  refine AllReadyH.cons (i := 7) rfl (fun K hKK => ?_) AllReadyH.nil
  go_simp
  ((with_reducible refine (HY _).mono ?_); rintro e u7 ⟨rfl, gu⟩)
  (try dsimp only)
  have HN7 := hid (show At u7 w.heap.size #[.int .i32 x, .int .i32 y] 25 ∧ Below w.heap.size w u7 from ⟨HN3.out.1.below gu, Ev.bt HN3.out.2 gu⟩)
  clear gu
  refine hKK.out _ _ HN7.out.1 (fun hHeld => ?_)
  clear hKK K
  (try simp only [Act.put, List.setIfInBounds_toArray, List.set_cons_zero, List.set_cons_succ])
  (refine takeW (i := 8) (d := 11) (v := ?_) rfl rfl (by kernel_rfl) (by kernel_rfl) (by kernel_rfl) (fun _ _ _ h => h) (by rfl) ?_ (by assumption) ?_)
  rotate_left
  · (intro W hSW; go_simp; (try with_reducible rfl))
  simp only [Act.put, List.setIfInBounds_toArray, List.set_cons_zero, List.set_cons_succ]
  (refine takeW (i := 9) (d := 2) (v := ?_) rfl rfl (by kernel_rfl) (by kernel_rfl) (by kernel_rfl) (fun _ _ _ h => h) (by rfl) ?_ (by assumption) ?_)
  rotate_left
  · (intro W hSW; go_simp; (try with_reducible rfl))
  simp only [Act.put, List.setIfInBounds_toArray, List.set_cons_zero, List.set_cons_succ]
  refine wpAnyH_done (by kernel_rfl) ?_ _
  refine NoPanic.normal ?_
  go_wp2_with fail
  go_ret
  refine ⟨?_, HN7.out.2⟩
  rw [HV.out]
  rfl

/-- the bytes ahead of the shots' byte, of the first so many players. -/
def tB (s : St) : Nat → List UInt8
  | 0 => numB s.fr ++ numB s.di ++ numB s.rd ++ numB s.lf
  | t + 1 => tB s t ++ plB (plS s t)
theorem plB_len {p : Pl} (h : NnP p) : (plB p).length ≤ 100 := by
  obtain ⟨⟨t1, t2, t3, t4⟩, t5, t6, t7, t8, t9, t10⟩ := h.ty
  have a := vecB_len p.ax p.ay t1 t2
  have b := vecB_len p.vx p.vy t3 t4
  have c := numB_len p.fa t5.2
  have d := numB_len p.hp t6.2
  have e := numB_len p.co t7.2
  have f := numB_len p.wi t8.2
  have g := numB_len p.dn t9.2
  have i := numB_len p.sc t10.2
  unfold plB
  simp only [List.length_append]
  omega
theorem tB_len {s : St} (h : NnS s) : ∀ t, (tB s t).length ≤ 40 + 100 * t
  | 0 => by
    have a := numB_len s.fr h.ty.fr.2
    have b := numB_len s.di (by have := h.ty.di; omega)
    have c := numB_len s.rd h.ty.rd.2
    have d := numB_len s.lf h.ty.lf.2
    unfold tB
    simp only [List.length_append]
    omega
  | t + 1 => by
    have a := tB_len h t
    have b := plB_len (h.pl t)
    show (tB s t ++ plB (plS s t)).length ≤ _
    rw [List.length_append]
    omega
theorem buB_len {p : Bu} (h : NnB p) : (buB p).length ≤ 60 := by
  obtain ⟨⟨t1, t2, t3, t4⟩, t5, t6⟩ := h.ty
  have a := vecB_len p.ax p.ay t1 t2
  have b := vecB_len p.vx p.vy t3 t4
  have c := numB_len p.ow t5.2
  have d := numB_len p.li t6.2
  unfold buB
  split
  · simp
  · simp only [List.length_append]
    omega
theorem behB_len {s : St} (h : NnS s) : ∀ t, (behB s t).length ≤ 60 * t
  | 0 => Nat.le_refl _
  | t + 1 => by
    have a := behB_len h t
    have b := buB_len (h.sh t)
    show (behB s t ++ buB (shS s t)).length ≤ _
    rw [List.length_append]
    omega
theorem bytes_len2 {s : St} (hT : Ty s) (hr : rightS s = true) : (bytesS s).length ≤ 601 := by
  have h := nn_state hT hr
  have a := tB_len h 2
  have b := behB_len h 6
  have c : (numL (bitsN s)).length ≤ 1 := Pk.num_len 0 _ (Nat.lt_of_lt_of_le (bits_lt s 6) (by decide))
  show (tB s 2 ++ numL (bitsN s) ++ behB s 6).length ≤ 601
  simp only [List.length_append]
  omega
theorem plC_at (x : Pl) : ∀ j v, ([.int .i32 x.ax, .int .i32 x.ay] : List Value)[j]? = some v → (plA x)[0 + j]? = some v := by
  intro j v hv
  have hj : j < 2 := (List.getElem?_eq_some_iff.1 hv).1
  have hh : j = 0 ∨ j = 1 := by omega
  rcases hh with rfl | rfl <;> exact hv
theorem plC_at2 (x : Pl) : ∀ j v, ([.int .i32 x.vx, .int .i32 x.vy] : List Value)[j]? = some v → (plA x)[2 + j]? = some v := by
  intro j v hv
  have hj : j < 2 := (List.getElem?_eq_some_iff.1 hv).1
  have hh : j = 0 ∨ j = 1 := by omega
  rcases hh with rfl | rfl <;> exact hv
theorem buC_at (x : Bu) : ∀ j v, ([.int .i32 x.ax, .int .i32 x.ay] : List Value)[j]? = some v → (buA x)[0 + j]? = some v := by
  intro j v hv
  have hj : j < 2 := (List.getElem?_eq_some_iff.1 hv).1
  have hh : j = 0 ∨ j = 1 := by omega
  rcases hh with rfl | rfl <;> exact hv
theorem buC_at2 (x : Bu) : ∀ j v, ([.int .i32 x.vx, .int .i32 x.vy] : List Value)[j]? = some v → (buA x)[2 + j]? = some v := by
  intro j v hv
  have hj : j < 2 := (List.getElem?_eq_some_iff.1 hv).1
  have hh : j = 0 ∨ j = 1 := by omega
  rcases hh with rfl | rfl <;> exact hv
theorem ow_zero {x : Bu} (h : Gm.freeB x = true) : (x.ow == 0) = decide (x = zeroB) := by
  by_cases hz : x = zeroB
  · subst hz; rfl
  · have h1 : decide (x = zeroB) = false := by simp [hz]
    rw [h1]
    unfold Gm.freeB Gm.flyB Gm.inB at h
    rw [h1] at h
    simp at h ⊢
    omega

set_option maxRecDepth 100000 in
set_option maxHeartbeats 8000000 in
theorem rpack_c (s : St) (w : World) (hT : Ty s) (hr : rightS s = true) :
    Calls Try.prog 11 #[.agg (stC s).toArray] w fun e w' => e = .returned (.string ⟨(bytesS s).toArray⟩) ∧ Below w.heap.size w w' := by
  have HNn := hid (nn_state hT hr)
  have HFree := hid (right_parts hr).2.2
  have HA := hid (At.new w (stC s).toArray 33)
  have HB := hid (Ev.bal (Ev.br w) (.cells (stC s).toArray 33))
  have HQ1 := fun W => rn_c s.fr W HNn.out.fr HNn.out.ty.fr.2
  have HQ2 := fun W => rnumber_i s.di s.di.toNat W (by have := HNn.out.ty.di; omega) (by have := HNn.out.ty.di; omega)
  change ∀ W, Calls _ _ _ W (fun e w' => e = .returned (.string ⟨(numB s.di).toArray⟩) ∧ _) at HQ2
  have HQ3 := fun W => rn_c s.rd W HNn.out.rd HNn.out.ty.rd.2
  have HQ4 := fun W => rn_c s.lf W HNn.out.lf HNn.out.ty.lf.2
  have l1 := numB_len s.fr HNn.out.ty.fr.2
  have l2 := numB_len s.di (by have := HNn.out.ty.di; omega)
  have l3 := numB_len s.rd HNn.out.ty.rd.2
  have l4 := numB_len s.lf HNn.out.ty.lf.2
  have HV : Hid (tB s 0 = numB s.fr ++ numB s.di ++ numB s.rd ++ numB s.lf) := hid rfl
  have hdi : 0 ≤ s.di ∧ s.di < 18446744073709551616 := by have := HNn.out.ty.di; omega
  generalize numB s.fr = a1 at HQ1 l1 HV
  generalize numB s.di = a2 at HQ2 l2 HV
  generalize numB s.rd = a3 at HQ3 l3 HV
  generalize numB s.lf = a4 at HQ4 l4 HV
  obtain ⟨e1, E1⟩ : ∃ c, Hid (c = a1 ++ a2) := ⟨_, hid rfl⟩
  have hl1 := len_to E1
  have ha1 := fun W => add_to E1 (by omega) W
  obtain ⟨e2, E2⟩ : ∃ c, Hid (c = e1 ++ a3) := ⟨_, hid rfl⟩
  have hl2 := len_to E2
  have ha2 := fun W => add_to E2 (by omega) W
  obtain ⟨e3, E3⟩ : ∃ c, Hid (c = e2 ++ a4) := ⟨_, hid rfl⟩
  have hl3 := len_to E3
  have ha3 := fun W => add_to E3 (by omega) W
  have HE : Hid (e3 = tB s 0) := hid (by rw [HV.out, E3.out, E2.out, E1.out])
  have HD : IntKind.u64.wrap s.di = s.di := by rw [IntKind.wrap_u64]; omega
  clear hT hr
  generalize hC : stC s = cs at HA HB
  go_enter Try.func11, Try.ntmps11
  go_upto_region 1 with fail
  subst hC
  generalize World.alloc w _ = w0 at HA HB ⊢
  refine wp_region_noPanic ?_
  refine wp_region_held_drew (S := (fun W => At W w.heap.size (stC s).toArray 33)) (by kernel_rfl) HA.out.drew (fun hHeld => ?_)
  (refine takeW (i := 0) (d := 11) (v := ?_) rfl rfl (by kernel_rfl) (by kernel_rfl) (by kernel_rfl) (fun _ _ _ h => h) (by rfl) ?_ (by assumption) ?_)
  rotate_left
  · (intro W hSW; go_simp; (try with_reducible rfl))
  simp only [Act.put, List.setIfInBounds_toArray, List.set_cons_zero, List.set_cons_succ]
  (refine takeW (i := 1) (d := 12) (v := ?_) rfl rfl (by kernel_rfl) (by kernel_rfl) (by kernel_rfl) (fun _ _ _ h => h) (by rfl) ?_ (by assumption) ?_)
  rotate_left
  · (intro W hSW; obtain ⟨k0, k1, k2, k3⟩ := at_st hSW; go_simp; (try with_reducible rfl))
  simp only [Act.put, List.setIfInBounds_toArray, List.set_cons_zero, List.set_cons_succ]
  (refine takeW (i := 3) (d := 14) (v := ?_) rfl rfl (by kernel_rfl) (by kernel_rfl) (by kernel_rfl) (fun _ _ _ h => h) (by rfl) ?_ (by assumption) ?_)
  rotate_left
  · (intro W hSW; go_simp; (try with_reducible rfl))
  simp only [Act.put, List.setIfInBounds_toArray, List.set_cons_zero, List.set_cons_succ]
  (refine takeW (i := 4) (d := 15) (v := ?_) rfl rfl (by kernel_rfl) (by kernel_rfl) (by kernel_rfl) (fun _ _ _ h => h) (by rfl) ?_ (by assumption) ?_)
  rotate_left
  · (intro W hSW; obtain ⟨k0, k1, k2, k3⟩ := at_st hSW; go_simp; (try with_reducible rfl))
  simp only [Act.put, List.setIfInBounds_toArray, List.set_cons_zero, List.set_cons_succ]
  (refine takeW (i := 5) (d := 16) (v := ?_) rfl rfl (by kernel_rfl) (by kernel_rfl) (by kernel_rfl) (fun _ _ _ h => h) (by rfl) ?_ (by assumption) ?_)
  rotate_left
  · (intro W hSW; go_simp; (try with_reducible rfl))
  simp only [Act.put, List.setIfInBounds_toArray, List.set_cons_zero, List.set_cons_succ]
  (refine takeW (i := 8) (d := 19) (v := ?_) rfl rfl (by kernel_rfl) (by kernel_rfl) (by kernel_rfl) (fun _ _ _ h => h) (by rfl) ?_ (by assumption) ?_)
  rotate_left
  · (intro W hSW; go_simp; (try with_reducible rfl))
  simp only [Act.put, List.setIfInBounds_toArray, List.set_cons_zero, List.set_cons_succ]
  (refine takeW (i := 9) (d := 20) (v := ?_) rfl rfl (by kernel_rfl) (by kernel_rfl) (by kernel_rfl) (fun _ _ _ h => h) (by rfl) ?_ (by assumption) ?_)
  rotate_left
  · (intro W hSW; obtain ⟨k0, k1, k2, k3⟩ := at_st hSW; go_simp; (try with_reducible rfl))
  simp only [Act.put, List.setIfInBounds_toArray, List.set_cons_zero, List.set_cons_succ]
  (refine takeW (i := 12) (d := 23) (v := ?_) rfl rfl (by kernel_rfl) (by kernel_rfl) (by kernel_rfl) (fun _ _ _ h => h) (by rfl) ?_ (by assumption) ?_)
  rotate_left
  · (intro W hSW; go_simp; (try with_reducible rfl))
  simp only [Act.put, List.setIfInBounds_toArray, List.set_cons_zero, List.set_cons_succ]
  (refine takeW (i := 13) (d := 24) (v := ?_) rfl rfl (by kernel_rfl) (by kernel_rfl) (by kernel_rfl) (fun _ _ _ h => h) (by rfl) ?_ (by assumption) ?_)
  rotate_left
  · (intro W hSW; obtain ⟨k0, k1, k2, k3⟩ := at_st hSW; go_simp; (try with_reducible rfl))
  simp only [Act.put, List.setIfInBounds_toArray, List.set_cons_zero, List.set_cons_succ]
  refine wpAnyH_ready (rs := [2]) (by kernel_rfl) (by simp) ?_
  refine AllReadyH.cons (i := 2) rfl (fun K hKK => ?_) AllReadyH.nil
  go_simp
  ((with_reducible refine (HQ1 _).mono ?_); rintro e u2 ⟨rfl, gu⟩)
  (try dsimp only)
  have HN2 := hid (show At u2 w.heap.size (stC s).toArray 33 ∧ Below w.heap.size w u2 from ⟨HA.out.below (Ev.bt (Ev.bd1 (Ev.br _)) gu), Ev.bt HB.out (Ev.bt (Ev.bd1 (Ev.br _)) gu)⟩)
  clear gu
  refine hKK.out _ _ HN2.out.1 (fun hHeld => ?_)
  clear hKK K
  (try simp only [Act.put, List.setIfInBounds_toArray, List.set_cons_zero, List.set_cons_succ])
  refine wpAnyH_ready (rs := [6]) (by kernel_rfl) (by simp) ?_
  refine AllReadyH.cons (i := 6) rfl (fun K hKK => ?_) AllReadyH.nil
  go_simp
  ((with_reducible refine (HQ2 _).mono ?_); rintro e u6 ⟨rfl, gu⟩)
  (try dsimp only)
  have HN6 := hid (show At u6 w.heap.size (stC s).toArray 33 ∧ Below w.heap.size w u6 from ⟨HN2.out.1.below gu, Ev.bt HN2.out.2 gu⟩)
  clear gu
  refine hKK.out _ _ HN6.out.1 (fun hHeld => ?_)
  clear hKK K
  (try simp only [Act.put, List.setIfInBounds_toArray, List.set_cons_zero, List.set_cons_succ])
  (refine takeW (i := 7) (d := 18) (v := ?_) rfl rfl (by kernel_rfl) (by kernel_rfl) (by kernel_rfl) (fun _ _ _ h => h) (by rfl) ?_ (by assumption) ?_)
  rotate_left
  · (intro W hSW; go_simp; (try with_reducible rfl))
  simp only [Act.put, List.setIfInBounds_toArray, List.set_cons_zero, List.set_cons_succ]
  refine wpAnyH_ready (rs := [10]) (by kernel_rfl) (by simp) ?_
  refine AllReadyH.cons (i := 10) rfl (fun K hKK => ?_) AllReadyH.nil
  go_simp
  ((with_reducible refine (HQ3 _).mono ?_); rintro e u10 ⟨rfl, gu⟩)
  (try dsimp only)
  have HN10 := hid (show At u10 w.heap.size (stC s).toArray 33 ∧ Below w.heap.size w u10 from ⟨HN6.out.1.below gu, Ev.bt HN6.out.2 gu⟩)
  clear gu
  refine hKK.out _ _ HN10.out.1 (fun hHeld => ?_)
  clear hKK K
  (try simp only [Act.put, List.setIfInBounds_toArray, List.set_cons_zero, List.set_cons_succ])
  (refine takeW (i := 11) (d := 22) (v := ?_) rfl rfl (by kernel_rfl) (by kernel_rfl) (by kernel_rfl) (fun _ _ _ h => h) (by rfl) ?_ (by assumption) ?_)
  rotate_left
  · (intro W hSW; go_simp; (try with_reducible rfl))
  simp only [Act.put, List.setIfInBounds_toArray, List.set_cons_zero, List.set_cons_succ]
  refine wpAnyH_ready (rs := [14]) (by kernel_rfl) (by simp) ?_
  refine AllReadyH.cons (i := 14) rfl (fun K hKK => ?_) AllReadyH.nil
  go_simp
  ((with_reducible refine (HQ4 _).mono ?_); rintro e u14 ⟨rfl, gu⟩)
  (try dsimp only)
  have HN14 := hid (show At u14 w.heap.size (stC s).toArray 33 ∧ Below w.heap.size w u14 from ⟨HN10.out.1.below gu, Ev.bt HN10.out.2 gu⟩)
  clear gu
  refine hKK.out _ _ HN14.out.1 (fun hHeld => ?_)
  clear hKK K
  (try simp only [Act.put, List.setIfInBounds_toArray, List.set_cons_zero, List.set_cons_succ])
  (refine takeW (i := 15) (d := 26) (v := ?_) rfl rfl (by kernel_rfl) (by kernel_rfl) (by kernel_rfl) (fun _ _ _ h => h) (by rfl) ?_ (by assumption) ?_)
  rotate_left
  · (intro W hSW; go_simp; (try with_reducible rfl))
  simp only [Act.put, List.setIfInBounds_toArray, List.set_cons_zero, List.set_cons_succ]
  (refine takeW (i := 16) (d := 3) (v := ?_) rfl rfl (by kernel_rfl) (by kernel_rfl) (by kernel_rfl) (fun _ _ _ h => h) (by rfl) ?_ (by assumption) ?_)
  rotate_left
  · (intro W hSW; go_simp; (try with_reducible rfl))
  simp only [Act.put, List.setIfInBounds_toArray, List.set_cons_zero, List.set_cons_succ]
  refine wpAnyH_done (by kernel_rfl) ?_ _
  refine NoPanic.normal ?_
  rw [HE.out]
  clear E1 E2 E3 hl1 hl2 hl3 HE HQ1 HQ2 HQ3 HQ4 l1 l2 l3 l4 ha1 ha2 ha3 HV hdi HD hHeld
  have HS14 := hid HN14.out
  clear HN2 HN6 HN10 HN14 HA HB
  go_wp2_with fail
  go_loopw [3, 4] (fun t i wr => ∃ k : Nat, k ≤ 2 ∧ i = .int .i64 k ∧ t = .string ⟨(tB s k).toArray⟩ ∧ At wr w.heap.size (stC s).toArray 33 ∧ Below w.heap.size w wr) (fun _ i _ => 2 - (intOf i).toNat)
  case atStart => exact ⟨0, by decide, rfl, rfl, HS14.out⟩
  case round =>
    obtain ⟨k, hk, rfl, rfl, hA, hB⟩ := hrel
    have HA := hid hA; have HB := hid hB; clear hA hB HS14
    by_cases hlt : k < 2
    · have hk1 : (k : Int) < 2 := by omega
      have hk0 : (0 : Int) ≤ (k : Int) := by omega
      have HI := hid (stC_pk s k hlt)
      have HNp := hid (HNn.out.pl k)
      have HTl := tB_len HNn.out k
      have HTs : Hid (tB s (k + 1) = tB s k ++ plB (plS s k)) := hid rfl
      generalize plS s k = x at HI HNp HTs
      generalize tB s k = t at HTl HTs
      obtain ⟨⟨t1, t2, t3, t4⟩, t5, t6, t7, t8, t9, t10⟩ := HNp.out.ty
      have HC1 := fun W => rv_c x.ax x.ay W t1 t2
      have HC2 := fun W => rv_c x.vx x.vy W t3 t4
      have HC3 := fun W => rn_c x.fa W HNp.out.fa t5.2
      have HC4 := fun W => rn_c x.hp W HNp.out.hp t6.2
      have HC5 := fun W => rn_c x.co W HNp.out.co t7.2
      have HC6 := fun W => rn_c x.wi W HNp.out.wi t8.2
      have HC7 := fun W => rn_c x.dn W HNp.out.dn t9.2
      have HC8 := fun W => rn_c x.sc W HNp.out.sc t10.2
      have l1 := vecB_len x.ax x.ay t1 t2
      have l2 := vecB_len x.vx x.vy t3 t4
      have l3 := numB_len x.fa t5.2
      have l4 := numB_len x.hp t6.2
      have l5 := numB_len x.co t7.2
      have l6 := numB_len x.wi t8.2
      have l7 := numB_len x.dn t9.2
      have l8 := numB_len x.sc t10.2
      have HTp : Hid (tB s (k + 1) = t ++ (vecB x.ax x.ay ++ vecB x.vx x.vy ++ numB x.fa ++ numB x.hp ++ numB x.co ++ numB x.wi ++ numB x.dn ++ numB x.sc)) := HTs
      clear HTs HNp t1 t2 t3 t4 t5 t6 t7 t8 t9 t10
      generalize vecB x.ax x.ay = b1 at HC1 l1 HTp
      generalize vecB x.vx x.vy = b2 at HC2 l2 HTp
      generalize numB x.fa = b3 at HC3 l3 HTp
      generalize numB x.hp = b4 at HC4 l4 HTp
      generalize numB x.co = b5 at HC5 l5 HTp
      generalize numB x.wi = b6 at HC6 l6 HTp
      generalize numB x.dn = b7 at HC7 l7 HTp
      generalize numB x.sc = b8 at HC8 l8 HTp
      obtain ⟨e1, E1⟩ : ∃ c, Hid (c = t ++ b1) := ⟨_, hid rfl⟩
      have hl1 := len_to E1
      have ha1 := fun W => add_to E1 (by omega) W
      obtain ⟨e2, E2⟩ : ∃ c, Hid (c = e1 ++ b2) := ⟨_, hid rfl⟩
      have hl2 := len_to E2
      have ha2 := fun W => add_to E2 (by omega) W
      obtain ⟨e3, E3⟩ : ∃ c, Hid (c = e2 ++ b3) := ⟨_, hid rfl⟩
      have hl3 := len_to E3
      have ha3 := fun W => add_to E3 (by omega) W
      obtain ⟨e4, E4⟩ : ∃ c, Hid (c = e3 ++ b4) := ⟨_, hid rfl⟩
      have hl4 := len_to E4
      have ha4 := fun W => add_to E4 (by omega) W
      obtain ⟨e5, E5⟩ : ∃ c, Hid (c = e4 ++ b5) := ⟨_, hid rfl⟩
      have hl5 := len_to E5
      have ha5 := fun W => add_to E5 (by omega) W
      obtain ⟨e6, E6⟩ : ∃ c, Hid (c = e5 ++ b6) := ⟨_, hid rfl⟩
      have hl6 := len_to E6
      have ha6 := fun W => add_to E6 (by omega) W
      obtain ⟨e7, E7⟩ : ∃ c, Hid (c = e6 ++ b7) := ⟨_, hid rfl⟩
      have hl7 := len_to E7
      have ha7 := fun W => add_to E7 (by omega) W
      obtain ⟨e8, E8⟩ : ∃ c, Hid (c = e7 ++ b8) := ⟨_, hid rfl⟩
      have hl8 := len_to E8
      have ha8 := fun W => add_to E8 (by omega) W
      have HNe : Hid (e8 = tB s (k + 1)) := hid (by rw [HTp.out, E8.out, E7.out, E6.out, E5.out, E4.out, E3.out, E2.out, E1.out]; simp only [List.append_assoc])
      go_upto_region 5 with (refine wpList_load_at rfl 27 _ rfl w.heap.size (4 + k * 10) rfl 33 _ (plC x) (0, 0) _ HA.out Try.underlying27 rfl (by kernel_rfl) HI.out ?_)
      go_upto_region 6 with (refine wpList_load_at rfl 27 _ rfl w.heap.size (4 + k * 10) rfl 33 _ (plC x) (0, 0) _ HA.out Try.underlying27 rfl (by kernel_rfl) HI.out ?_)
      have HX := hid (At.new wr (plA x) 27)
      have HAx := hid (HA.out.below (Ev.bal (Ev.br wr) (.cells (plA x) 27)))
      have HBx := hid (Ev.bt HB.out (Ev.bal (Ev.br wr) (.cells (plA x) 27)))
      generalize World.alloc wr _ = w1 at HX HAx HBx ⊢
      generalize wr.heap.size = C at HX ⊢
      refine wp_region_noPanic ?_
      refine wp_region_held_drew (S := (fun W => At W C (plA x) 27)) (by kernel_rfl) HX.out.drew (fun hHeld => ?_)
      (refine takeW (i := 0) (d := 35) (v := ?_) rfl rfl (by kernel_rfl) (by kernel_rfl) (by kernel_rfl) (fun _ _ _ h => h) (by rfl) ?_ (by assumption) ?_)
      rotate_left
      · (intro W hSW; go_simp; (try with_reducible rfl))
      simp only [Act.put, List.setIfInBounds_toArray, List.set_cons_zero, List.set_cons_succ]
      (refine takeW (i := 1) (d := 36) (v := ?_) rfl rfl (by kernel_rfl) (by kernel_rfl) (by kernel_rfl) (fun _ _ _ h => h) (by rfl) ?_ (by assumption) ?_)
      rotate_left
      · (intro W hSW; go_simp; (try with_reducible rfl))
      simp only [Act.put, List.setIfInBounds_toArray, List.set_cons_zero, List.set_cons_succ]
      (refine takeW (i := 2) (d := 37) (v := vec x.ax x.ay) rfl rfl (by kernel_rfl) (by kernel_rfl) (by kernel_rfl) (fun _ _ _ h => h) (by rfl) ?_ (by assumption) ?_)
      · (intro W hSW; exact exec_load_at W 25 _ rfl C 0 rfl 27 _ [.int .i32 x.ax, .int .i32 x.ay] (0, 0) _ hSW Try.underlying25 rfl (by kernel_rfl) (plC_at x))
      simp only [Act.put, List.setIfInBounds_toArray, List.set_cons_zero, List.set_cons_succ]
      (refine takeW (i := 5) (d := 40) (v := ?_) rfl rfl (by kernel_rfl) (by kernel_rfl) (by kernel_rfl) (fun _ _ _ h => h) (by rfl) ?_ (by assumption) ?_)
      rotate_left
      · (intro W hSW; go_simp; (try with_reducible rfl))
      simp only [Act.put, List.setIfInBounds_toArray, List.set_cons_zero, List.set_cons_succ]
      (refine takeW (i := 6) (d := 41) (v := vec x.vx x.vy) rfl rfl (by kernel_rfl) (by kernel_rfl) (by kernel_rfl) (fun _ _ _ h => h) (by rfl) ?_ (by assumption) ?_)
      · (intro W hSW; exact exec_load_at W 25 _ rfl C 2 rfl 27 _ [.int .i32 x.vx, .int .i32 x.vy] (0, 0) _ hSW Try.underlying25 rfl (by kernel_rfl) (plC_at2 x))
      simp only [Act.put, List.setIfInBounds_toArray, List.set_cons_zero, List.set_cons_succ]
      (refine takeW (i := 9) (d := 44) (v := ?_) rfl rfl (by kernel_rfl) (by kernel_rfl) (by kernel_rfl) (fun _ _ _ h => h) (by rfl) ?_ (by assumption) ?_)
      rotate_left
      · (intro W hSW; go_simp; (try with_reducible rfl))
      simp only [Act.put, List.setIfInBounds_toArray, List.set_cons_zero, List.set_cons_succ]
      (refine takeW (i := 10) (d := 45) (v := ?_) rfl rfl (by kernel_rfl) (by kernel_rfl) (by kernel_rfl) (fun _ _ _ h => h) (by rfl) ?_ (by assumption) ?_)
      rotate_left
      · (intro W hSW; obtain ⟨p0, p1, p2, p3, p4, p5, p6, p7, p8, p9⟩ := at_pl hSW; go_simp; (try with_reducible rfl))
      simp only [Act.put, List.setIfInBounds_toArray, List.set_cons_zero, List.set_cons_succ]
      (refine takeW (i := 13) (d := 48) (v := ?_) rfl rfl (by kernel_rfl) (by kernel_rfl) (by kernel_rfl) (fun _ _ _ h => h) (by rfl) ?_ (by assumption) ?_)
      rotate_left
      · (intro W hSW; go_simp; (try with_reducible rfl))
      simp only [Act.put, List.setIfInBounds_toArray, List.set_cons_zero, List.set_cons_succ]
      (refine takeW (i := 14) (d := 49) (v := ?_) rfl rfl (by kernel_rfl) (by kernel_rfl) (by kernel_rfl) (fun _ _ _ h => h) (by rfl) ?_ (by assumption) ?_)
      rotate_left
      · (intro W hSW; obtain ⟨p0, p1, p2, p3, p4, p5, p6, p7, p8, p9⟩ := at_pl hSW; go_simp; (try with_reducible rfl))
      simp only [Act.put, List.setIfInBounds_toArray, List.set_cons_zero, List.set_cons_succ]
      (refine takeW (i := 17) (d := 52) (v := ?_) rfl rfl (by kernel_rfl) (by kernel_rfl) (by kernel_rfl) (fun _ _ _ h => h) (by rfl) ?_ (by assumption) ?_)
      rotate_left
      · (intro W hSW; go_simp; (try with_reducible rfl))
      simp only [Act.put, List.setIfInBounds_toArray, List.set_cons_zero, List.set_cons_succ]
      (refine takeW (i := 18) (d := 53) (v := ?_) rfl rfl (by kernel_rfl) (by kernel_rfl) (by kernel_rfl) (fun _ _ _ h => h) (by rfl) ?_ (by assumption) ?_)
      rotate_left
      · (intro W hSW; obtain ⟨p0, p1, p2, p3, p4, p5, p6, p7, p8, p9⟩ := at_pl hSW; go_simp; (try with_reducible rfl))
      simp only [Act.put, List.setIfInBounds_toArray, List.set_cons_zero, List.set_cons_succ]
      (refine takeW (i := 21) (d := 56) (v := ?_) rfl rfl (by kernel_rfl) (by kernel_rfl) (by kernel_rfl) (fun _ _ _ h => h) (by rfl) ?_ (by assumption) ?_)
      rotate_left
      · (intro W hSW; go_simp; (try with_reducible rfl))
      simp only [Act.put, List.setIfInBounds_toArray, List.set_cons_zero, List.set_cons_succ]
      (refine takeW (i := 22) (d := 57) (v := ?_) rfl rfl (by kernel_rfl) (by kernel_rfl) (by kernel_rfl) (fun _ _ _ h => h) (by rfl) ?_ (by assumption) ?_)
      rotate_left
      · (intro W hSW; obtain ⟨p0, p1, p2, p3, p4, p5, p6, p7, p8, p9⟩ := at_pl hSW; go_simp; (try with_reducible rfl))
      simp only [Act.put, List.setIfInBounds_toArray, List.set_cons_zero, List.set_cons_succ]
      (refine takeW (i := 25) (d := 60) (v := ?_) rfl rfl (by kernel_rfl) (by kernel_rfl) (by kernel_rfl) (fun _ _ _ h => h) (by rfl) ?_ (by assumption) ?_)
      rotate_left
      · (intro W hSW; go_simp; (try with_reducible rfl))
      simp only [Act.put, List.setIfInBounds_toArray, List.set_cons_zero, List.set_cons_succ]
      (refine takeW (i := 26) (d := 61) (v := ?_) rfl rfl (by kernel_rfl) (by kernel_rfl) (by kernel_rfl) (fun _ _ _ h => h) (by rfl) ?_ (by assumption) ?_)
      rotate_left
      · (intro W hSW; obtain ⟨p0, p1, p2, p3, p4, p5, p6, p7, p8, p9⟩ := at_pl hSW; go_simp; (try with_reducible rfl))
      simp only [Act.put, List.setIfInBounds_toArray, List.set_cons_zero, List.set_cons_succ]
      (refine takeW (i := 29) (d := 64) (v := ?_) rfl rfl (by kernel_rfl) (by kernel_rfl) (by kernel_rfl) (fun _ _ _ h => h) (by rfl) ?_ (by assumption) ?_)
      rotate_left
      · (intro W hSW; go_simp; (try with_reducible rfl))
      simp only [Act.put, List.setIfInBounds_toArray, List.set_cons_zero, List.set_cons_succ]
      (refine takeW (i := 30) (d := 65) (v := ?_) rfl rfl (by kernel_rfl) (by kernel_rfl) (by kernel_rfl) (fun _ _ _ h => h) (by rfl) ?_ (by assumption) ?_)
      rotate_left
      · (intro W hSW; obtain ⟨p0, p1, p2, p3, p4, p5, p6, p7, p8, p9⟩ := at_pl hSW; go_simp; (try with_reducible rfl))
      simp only [Act.put, List.setIfInBounds_toArray, List.set_cons_zero, List.set_cons_succ]
      refine wpAnyH_ready (rs := [3]) (by kernel_rfl) (by simp) ?_
      refine AllReadyH.cons (i := 3) rfl (fun K hKK => ?_) AllReadyH.nil
      go_simp
      ((with_reducible refine (HC1 _).mono ?_); rintro e u3 ⟨rfl, gu⟩)
      (try dsimp only)
      have HN3 := hid (show At u3 C (plA x) 27 ∧ At u3 w.heap.size (stC s).toArray 33 ∧ Below w.heap.size w u3 from ⟨HX.out.below (Ev.bt (Ev.bd1 (Ev.br _)) gu), HAx.out.below (Ev.bt (Ev.bd1 (Ev.br _)) gu), Ev.bt HBx.out (Ev.bt (Ev.bd1 (Ev.br _)) gu)⟩)
      clear gu
      refine hKK.out _ _ HN3.out.1 (fun hHeld => ?_)
      clear hKK K
      (try simp only [Act.put, List.setIfInBounds_toArray, List.set_cons_zero, List.set_cons_succ])
      (refine takeW (i := 4) (d := 39) (v := ?_) rfl rfl (by kernel_rfl) (by kernel_rfl) (by kernel_rfl) (fun _ _ _ h => h) (by rfl) ?_ (by assumption) ?_)
      rotate_left
      · (intro W hSW; go_simp; (try with_reducible rfl))
      simp only [Act.put, List.setIfInBounds_toArray, List.set_cons_zero, List.set_cons_succ]
      refine wpAnyH_ready (rs := [7]) (by kernel_rfl) (by simp) ?_
      refine AllReadyH.cons (i := 7) rfl (fun K hKK => ?_) AllReadyH.nil
      go_simp
      ((with_reducible refine (HC2 _).mono ?_); rintro e u7 ⟨rfl, gu⟩)
      (try dsimp only)
      have HN7 := hid (show At u7 C (plA x) 27 ∧ At u7 w.heap.size (stC s).toArray 33 ∧ Below w.heap.size w u7 from ⟨HN3.out.1.below gu, HN3.out.2.1.below gu, Ev.bt HN3.out.2.2 gu⟩)
      clear gu
      refine hKK.out _ _ HN7.out.1 (fun hHeld => ?_)
      clear hKK K
      (try simp only [Act.put, List.setIfInBounds_toArray, List.set_cons_zero, List.set_cons_succ])
      (refine takeW (i := 8) (d := 43) (v := ?_) rfl rfl (by kernel_rfl) (by kernel_rfl) (by kernel_rfl) (fun _ _ _ h => h) (by rfl) ?_ (by assumption) ?_)
      rotate_left
      · (intro W hSW; go_simp; (try with_reducible rfl))
      simp only [Act.put, List.setIfInBounds_toArray, List.set_cons_zero, List.set_cons_succ]
      refine wpAnyH_ready (rs := [11]) (by kernel_rfl) (by simp) ?_
      refine AllReadyH.cons (i := 11) rfl (fun K hKK => ?_) AllReadyH.nil
      go_simp
      ((with_reducible refine (HC3 _).mono ?_); rintro e u11 ⟨rfl, gu⟩)
      (try dsimp only)
      have HN11 := hid (show At u11 C (plA x) 27 ∧ At u11 w.heap.size (stC s).toArray 33 ∧ Below w.heap.size w u11 from ⟨HN7.out.1.below gu, HN7.out.2.1.below gu, Ev.bt HN7.out.2.2 gu⟩)
      clear gu
      refine hKK.out _ _ HN11.out.1 (fun hHeld => ?_)
      clear hKK K
      (try simp only [Act.put, List.setIfInBounds_toArray, List.set_cons_zero, List.set_cons_succ])
      (refine takeW (i := 12) (d := 47) (v := ?_) rfl rfl (by kernel_rfl) (by kernel_rfl) (by kernel_rfl) (fun _ _ _ h => h) (by rfl) ?_ (by assumption) ?_)
      rotate_left
      · (intro W hSW; go_simp; (try with_reducible rfl))
      simp only [Act.put, List.setIfInBounds_toArray, List.set_cons_zero, List.set_cons_succ]
      refine wpAnyH_ready (rs := [15]) (by kernel_rfl) (by simp) ?_
      refine AllReadyH.cons (i := 15) rfl (fun K hKK => ?_) AllReadyH.nil
      go_simp
      ((with_reducible refine (HC4 _).mono ?_); rintro e u15 ⟨rfl, gu⟩)
      (try dsimp only)
      have HN15 := hid (show At u15 C (plA x) 27 ∧ At u15 w.heap.size (stC s).toArray 33 ∧ Below w.heap.size w u15 from ⟨HN11.out.1.below gu, HN11.out.2.1.below gu, Ev.bt HN11.out.2.2 gu⟩)
      clear gu
      refine hKK.out _ _ HN15.out.1 (fun hHeld => ?_)
      clear hKK K
      (try simp only [Act.put, List.setIfInBounds_toArray, List.set_cons_zero, List.set_cons_succ])
      (refine takeW (i := 16) (d := 51) (v := ?_) rfl rfl (by kernel_rfl) (by kernel_rfl) (by kernel_rfl) (fun _ _ _ h => h) (by rfl) ?_ (by assumption) ?_)
      rotate_left
      · (intro W hSW; go_simp; (try with_reducible rfl))
      simp only [Act.put, List.setIfInBounds_toArray, List.set_cons_zero, List.set_cons_succ]
      refine wpAnyH_ready (rs := [19]) (by kernel_rfl) (by simp) ?_
      refine AllReadyH.cons (i := 19) rfl (fun K hKK => ?_) AllReadyH.nil
      go_simp
      ((with_reducible refine (HC5 _).mono ?_); rintro e u19 ⟨rfl, gu⟩)
      (try dsimp only)
      have HN19 := hid (show At u19 C (plA x) 27 ∧ At u19 w.heap.size (stC s).toArray 33 ∧ Below w.heap.size w u19 from ⟨HN15.out.1.below gu, HN15.out.2.1.below gu, Ev.bt HN15.out.2.2 gu⟩)
      clear gu
      refine hKK.out _ _ HN19.out.1 (fun hHeld => ?_)
      clear hKK K
      (try simp only [Act.put, List.setIfInBounds_toArray, List.set_cons_zero, List.set_cons_succ])
      (refine takeW (i := 20) (d := 55) (v := ?_) rfl rfl (by kernel_rfl) (by kernel_rfl) (by kernel_rfl) (fun _ _ _ h => h) (by rfl) ?_ (by assumption) ?_)
      rotate_left
      · (intro W hSW; go_simp; (try with_reducible rfl))
      simp only [Act.put, List.setIfInBounds_toArray, List.set_cons_zero, List.set_cons_succ]
      refine wpAnyH_ready (rs := [23]) (by kernel_rfl) (by simp) ?_
      refine AllReadyH.cons (i := 23) rfl (fun K hKK => ?_) AllReadyH.nil
      go_simp
      ((with_reducible refine (HC6 _).mono ?_); rintro e u23 ⟨rfl, gu⟩)
      (try dsimp only)
      have HN23 := hid (show At u23 C (plA x) 27 ∧ At u23 w.heap.size (stC s).toArray 33 ∧ Below w.heap.size w u23 from ⟨HN19.out.1.below gu, HN19.out.2.1.below gu, Ev.bt HN19.out.2.2 gu⟩)
      clear gu
      refine hKK.out _ _ HN23.out.1 (fun hHeld => ?_)
      clear hKK K
      (try simp only [Act.put, List.setIfInBounds_toArray, List.set_cons_zero, List.set_cons_succ])
      (refine takeW (i := 24) (d := 59) (v := ?_) rfl rfl (by kernel_rfl) (by kernel_rfl) (by kernel_rfl) (fun _ _ _ h => h) (by rfl) ?_ (by assumption) ?_)
      rotate_left
      · (intro W hSW; go_simp; (try with_reducible rfl))
      simp only [Act.put, List.setIfInBounds_toArray, List.set_cons_zero, List.set_cons_succ]
      refine wpAnyH_ready (rs := [27]) (by kernel_rfl) (by simp) ?_
      refine AllReadyH.cons (i := 27) rfl (fun K hKK => ?_) AllReadyH.nil
      go_simp
      ((with_reducible refine (HC7 _).mono ?_); rintro e u27 ⟨rfl, gu⟩)
      (try dsimp only)
      have HN27 := hid (show At u27 C (plA x) 27 ∧ At u27 w.heap.size (stC s).toArray 33 ∧ Below w.heap.size w u27 from ⟨HN23.out.1.below gu, HN23.out.2.1.below gu, Ev.bt HN23.out.2.2 gu⟩)
      clear gu
      refine hKK.out _ _ HN27.out.1 (fun hHeld => ?_)
      clear hKK K
      (try simp only [Act.put, List.setIfInBounds_toArray, List.set_cons_zero, List.set_cons_succ])
      (refine takeW (i := 28) (d := 63) (v := ?_) rfl rfl (by kernel_rfl) (by kernel_rfl) (by kernel_rfl) (fun _ _ _ h => h) (by rfl) ?_ (by assumption) ?_)
      rotate_left
      · (intro W hSW; go_simp; (try with_reducible rfl))
      simp only [Act.put, List.setIfInBounds_toArray, List.set_cons_zero, List.set_cons_succ]
      refine wpAnyH_ready (rs := [31]) (by kernel_rfl) (by simp) ?_
      refine AllReadyH.cons (i := 31) rfl (fun K hKK => ?_) AllReadyH.nil
      go_simp
      ((with_reducible refine (HC8 _).mono ?_); rintro e u31 ⟨rfl, gu⟩)
      (try dsimp only)
      have HN31 := hid (show At u31 C (plA x) 27 ∧ At u31 w.heap.size (stC s).toArray 33 ∧ Below w.heap.size w u31 from ⟨HN27.out.1.below gu, HN27.out.2.1.below gu, Ev.bt HN27.out.2.2 gu⟩)
      clear gu
      refine hKK.out _ _ HN31.out.1 (fun hHeld => ?_)
      clear hKK K
      (try simp only [Act.put, List.setIfInBounds_toArray, List.set_cons_zero, List.set_cons_succ])
      (refine takeW (i := 32) (d := 67) (v := ?_) rfl rfl (by kernel_rfl) (by kernel_rfl) (by kernel_rfl) (fun _ _ _ h => h) (by rfl) ?_ (by assumption) ?_)
      rotate_left
      · (intro W hSW; go_simp; (try with_reducible rfl))
      simp only [Act.put, List.setIfInBounds_toArray, List.set_cons_zero, List.set_cons_succ]
      (refine takeW (i := 33) (d := 3) (v := ?_) rfl rfl (by kernel_rfl) (by kernel_rfl) (by kernel_rfl) (fun _ _ _ h => h) (by rfl) ?_ (by assumption) ?_)
      rotate_left
      · (intro W hSW; go_simp; (try with_reducible rfl))
      simp only [Act.put, List.setIfInBounds_toArray, List.set_cons_zero, List.set_cons_succ]
      refine wpAnyH_done (by kernel_rfl) ?_ _
      refine NoPanic.normal ?_
      rw [HNe.out]
      clear hHeld HC1 HC2 HC3 HC4 HC5 HC6 HC7 HC8 l1 l2 l3 l4 l5 l6 l7 l8 E1 E2 E3 E4 E5 E6 E7 E8 hl1 hl2 hl3 hl4 hl5 hl6 hl7 hl8 ha1 ha2 ha3 ha4 ha5 ha6 ha7 ha8 HTp HNe
      go_wp2_with fail
      go_roundw
      case rel => exact ⟨k + 1, hlt, by go_num, rfl, HN31.out.2.1, HN31.out.2.2⟩
      case measure => simp [intOf]; omega
    · have hk2 : k = 2 := by omega
      subst hk2
      have HTl := tB_len HNn.out 2
      have HHd : Hid (headB s = tB s 2) := hid rfl
      generalize tB s 2 = t at HTl HHd
      go_wp2_with fail
      go_loopw [6, 7, 8, 9] (fun b h o i wr => ∃ k : Nat, k ≤ 6 ∧ i = .int .i64 k ∧ b = .int .i64 (bitsT s k : Int) ∧ h = .string ⟨(behB s k).toArray⟩ ∧ o = .int .i64 ((2 ^ k : Nat) : Int) ∧ At wr w.heap.size (stC s).toArray 33 ∧ Below w.heap.size w wr) (fun _ _ _ i _ => 6 - (intOf i).toNat)
      case atStart => exact ⟨0, by decide, rfl, rfl, rfl, rfl, HA.out, HB.out⟩
      case round =>
        obtain ⟨k, hk, rfl, rfl, rfl, rfl, hA, hB⟩ := hrel
        have HA2 := hid hA; have HB2 := hid hB; clear hA hB HA HB
        have HBl := behB_len HNn.out k
        by_cases hlt : k < 6
        · have hk1 : (k : Int) < 6 := by omega
          have hk0 : (0 : Int) ≤ (k : Int) := by omega
          have HI := hid (stC_bk s k hlt)
          have HNb := hid (HNn.out.sh k)
          have hz := ow_zero (HFree.out k)
          have HBs : Hid (behB s (k + 1) = behB s k ++ buB (shS s k)) := hid rfl
          have HTs : Hid (bitsT s (k + 1) = bitsT s k + 2 ^ k * bit (shS s k)) := hid rfl
          have hbl := bits_lt s k
          have hpw : 2 ^ k ≤ 32 := Nat.pow_le_pow_right (n := 2) (by decide) (show k ≤ 5 by omega)
          have HPw : Hid (2 ^ (k + 1) = 2 * 2 ^ k) := hid (by rw [Nat.pow_succ]; omega)
          generalize shS s k = x at HI HNb HBs HTs hz
          generalize behB s k = bh at HBl HBs
          generalize bitsT s k = bb at hbl HTs
          generalize (2 : Nat) ^ k = pw at hbl hpw HTs HPw
          obtain ⟨⟨t1, t2, t3, t4⟩, t5, t6⟩ := HNb.out.ty
          go_upto_region 14 with (refine wpList_load_at rfl 30 _ rfl w.heap.size (24 + k * 6) rfl 33 _ (buC x) (0, 0) _ HA2.out Try.underlying30 rfl (by kernel_rfl) HI.out ?_)
          have HX := hid (At.new wr (buA x) 30)
          have HAx := hid (HA2.out.below (Ev.bal (Ev.br wr) (.cells (buA x) 30)))
          have HBx := hid (Ev.bt HB2.out (Ev.bal (Ev.br wr) (.cells (buA x) 30)))
          generalize World.alloc wr _ = w1 at HX HAx HBx ⊢
          generalize wr.heap.size = C at HX ⊢
          obtain ⟨k0, k1, k2, k3, k4, k5⟩ := at_bu HX.out
          cases hd : decide (x = zeroB)
          · rw [hd] at hz
            have hx : ¬ x = zeroB := of_decide_eq_false hd
            have hbit : bit x = 1 := if_neg hx
            have HBp : Hid (behB s (k + 1) = bh ++ (vecB x.ax x.ay ++ vecB x.vx x.vy ++ numB x.ow ++ numB x.li)) := hid (by rw [HBs.out]; unfold buB; rw [if_neg hx])
            have HTp : Hid ((bb : Int) + (pw : Int) = (bitsT s (k + 1) : Int)) := hid (by rw [HTs.out, hbit, Nat.mul_one]; omega)
            have HC1 := fun W => rv_c x.ax x.ay W t1 t2
            have HC2 := fun W => rv_c x.vx x.vy W t3 t4
            have HC3 := fun W => rn_c x.ow W HNb.out.ow t5.2
            have HC4 := fun W => rn_c x.li W HNb.out.li t6.2
            have l1 := vecB_len x.ax x.ay t1 t2
            have l2 := vecB_len x.vx x.vy t3 t4
            have l3 := numB_len x.ow t5.2
            have l4 := numB_len x.li t6.2
            generalize vecB x.ax x.ay = b1 at HC1 l1 HBp
            generalize vecB x.vx x.vy = b2 at HC2 l2 HBp
            generalize numB x.ow = b3 at HC3 l3 HBp
            generalize numB x.li = b4 at HC4 l4 HBp
            obtain ⟨e1, E1⟩ : ∃ c, Hid (c = bh ++ b1) := ⟨_, hid rfl⟩
            have hl1 := len_to E1
            have ha1 := fun W => add_to E1 (by omega) W
            obtain ⟨e2, E2⟩ : ∃ c, Hid (c = e1 ++ b2) := ⟨_, hid rfl⟩
            have hl2 := len_to E2
            have ha2 := fun W => add_to E2 (by omega) W
            obtain ⟨e3, E3⟩ : ∃ c, Hid (c = e2 ++ b3) := ⟨_, hid rfl⟩
            have hl3 := len_to E3
            have ha3 := fun W => add_to E3 (by omega) W
            obtain ⟨e4, E4⟩ : ∃ c, Hid (c = e3 ++ b4) := ⟨_, hid rfl⟩
            have hl4 := len_to E4
            have ha4 := fun W => add_to E4 (by omega) W
            have HNe : Hid (e4 = behB s (k + 1)) := hid (by rw [HBp.out, E4.out, E3.out, E2.out, E1.out]; simp only [List.append_assoc])
            clear HBs HTs HNb hd hbit HBl t1 t2 t3 t4 t5 t6
            go_upto_region 16 with fail
            clear k0 k1 k2 k3 k4 k5
            refine wp_region_noPanic ?_
            refine wp_region_held_drew (S := (fun W => At W C (buA x) 30)) (by kernel_rfl) HX.out.drew (fun hHeld => ?_)
            (refine takeW (i := 0) (d := 82) (v := ?_) rfl rfl (by kernel_rfl) (by kernel_rfl) (by kernel_rfl) (fun _ _ _ h => h) (by rfl) ?_ (by assumption) ?_)
            rotate_left
            · (intro W hSW; go_simp; (try with_reducible rfl))
            simp only [Act.put, List.setIfInBounds_toArray, List.set_cons_zero, List.set_cons_succ]
            (refine takeW (i := 1) (d := 83) (v := ?_) rfl rfl (by kernel_rfl) (by kernel_rfl) (by kernel_rfl) (fun _ _ _ h => h) (by rfl) ?_ (by assumption) ?_)
            rotate_left
            · (intro W hSW; go_simp; (try with_reducible rfl))
            simp only [Act.put, List.setIfInBounds_toArray, List.set_cons_zero, List.set_cons_succ]
            (refine takeW (i := 2) (d := 84) (v := vec x.ax x.ay) rfl rfl (by kernel_rfl) (by kernel_rfl) (by kernel_rfl) (fun _ _ _ h => h) (by rfl) ?_ (by assumption) ?_)
            · (intro W hSW; exact exec_load_at W 25 _ rfl C 0 rfl 30 _ [.int .i32 x.ax, .int .i32 x.ay] (0, 0) _ hSW Try.underlying25 rfl (by kernel_rfl) (buC_at x))
            simp only [Act.put, List.setIfInBounds_toArray, List.set_cons_zero, List.set_cons_succ]
            (refine takeW (i := 5) (d := 87) (v := ?_) rfl rfl (by kernel_rfl) (by kernel_rfl) (by kernel_rfl) (fun _ _ _ h => h) (by rfl) ?_ (by assumption) ?_)
            rotate_left
            · (intro W hSW; go_simp; (try with_reducible rfl))
            simp only [Act.put, List.setIfInBounds_toArray, List.set_cons_zero, List.set_cons_succ]
            (refine takeW (i := 6) (d := 88) (v := vec x.vx x.vy) rfl rfl (by kernel_rfl) (by kernel_rfl) (by kernel_rfl) (fun _ _ _ h => h) (by rfl) ?_ (by assumption) ?_)
            · (intro W hSW; exact exec_load_at W 25 _ rfl C 2 rfl 30 _ [.int .i32 x.vx, .int .i32 x.vy] (0, 0) _ hSW Try.underlying25 rfl (by kernel_rfl) (buC_at2 x))
            simp only [Act.put, List.setIfInBounds_toArray, List.set_cons_zero, List.set_cons_succ]
            (refine takeW (i := 9) (d := 91) (v := ?_) rfl rfl (by kernel_rfl) (by kernel_rfl) (by kernel_rfl) (fun _ _ _ h => h) (by rfl) ?_ (by assumption) ?_)
            rotate_left
            · (intro W hSW; go_simp; (try with_reducible rfl))
            simp only [Act.put, List.setIfInBounds_toArray, List.set_cons_zero, List.set_cons_succ]
            (refine takeW (i := 10) (d := 92) (v := ?_) rfl rfl (by kernel_rfl) (by kernel_rfl) (by kernel_rfl) (fun _ _ _ h => h) (by rfl) ?_ (by assumption) ?_)
            rotate_left
            · (intro W hSW; obtain ⟨p0, p1, p2, p3, p4, p5⟩ := at_bu hSW; go_simp; (try with_reducible rfl))
            simp only [Act.put, List.setIfInBounds_toArray, List.set_cons_zero, List.set_cons_succ]
            (refine takeW (i := 13) (d := 95) (v := ?_) rfl rfl (by kernel_rfl) (by kernel_rfl) (by kernel_rfl) (fun _ _ _ h => h) (by rfl) ?_ (by assumption) ?_)
            rotate_left
            · (intro W hSW; go_simp; (try with_reducible rfl))
            simp only [Act.put, List.setIfInBounds_toArray, List.set_cons_zero, List.set_cons_succ]
            (refine takeW (i := 14) (d := 96) (v := ?_) rfl rfl (by kernel_rfl) (by kernel_rfl) (by kernel_rfl) (fun _ _ _ h => h) (by rfl) ?_ (by assumption) ?_)
            rotate_left
            · (intro W hSW; obtain ⟨p0, p1, p2, p3, p4, p5⟩ := at_bu hSW; go_simp; (try with_reducible rfl))
            simp only [Act.put, List.setIfInBounds_toArray, List.set_cons_zero, List.set_cons_succ]
            refine wpAnyH_ready (rs := [3]) (by kernel_rfl) (by simp) ?_
            refine AllReadyH.cons (i := 3) rfl (fun K hKK => ?_) AllReadyH.nil
            go_simp
            ((with_reducible refine (HC1 _).mono ?_); rintro e u3 ⟨rfl, gu⟩)
            (try dsimp only)
            have HN3 := hid (show At u3 C (buA x) 30 ∧ At u3 w.heap.size (stC s).toArray 33 ∧ Below w.heap.size w u3 from ⟨HX.out.below (Ev.bt (Ev.bd1 (Ev.br _)) gu), HAx.out.below (Ev.bt (Ev.bd1 (Ev.br _)) gu), Ev.bt HBx.out (Ev.bt (Ev.bd1 (Ev.br _)) gu)⟩)
            clear gu
            refine hKK.out _ _ HN3.out.1 (fun hHeld => ?_)
            clear hKK K
            (try simp only [Act.put, List.setIfInBounds_toArray, List.set_cons_zero, List.set_cons_succ])
            (refine takeW (i := 4) (d := 86) (v := ?_) rfl rfl (by kernel_rfl) (by kernel_rfl) (by kernel_rfl) (fun _ _ _ h => h) (by rfl) ?_ (by assumption) ?_)
            rotate_left
            · (intro W hSW; go_simp; (try with_reducible rfl))
            simp only [Act.put, List.setIfInBounds_toArray, List.set_cons_zero, List.set_cons_succ]
            refine wpAnyH_ready (rs := [7]) (by kernel_rfl) (by simp) ?_
            refine AllReadyH.cons (i := 7) rfl (fun K hKK => ?_) AllReadyH.nil
            go_simp
            ((with_reducible refine (HC2 _).mono ?_); rintro e u7 ⟨rfl, gu⟩)
            (try dsimp only)
            have HN7 := hid (show At u7 C (buA x) 30 ∧ At u7 w.heap.size (stC s).toArray 33 ∧ Below w.heap.size w u7 from ⟨HN3.out.1.below gu, HN3.out.2.1.below gu, Ev.bt HN3.out.2.2 gu⟩)
            clear gu
            refine hKK.out _ _ HN7.out.1 (fun hHeld => ?_)
            clear hKK K
            (try simp only [Act.put, List.setIfInBounds_toArray, List.set_cons_zero, List.set_cons_succ])
            (refine takeW (i := 8) (d := 90) (v := ?_) rfl rfl (by kernel_rfl) (by kernel_rfl) (by kernel_rfl) (fun _ _ _ h => h) (by rfl) ?_ (by assumption) ?_)
            rotate_left
            · (intro W hSW; go_simp; (try with_reducible rfl))
            simp only [Act.put, List.setIfInBounds_toArray, List.set_cons_zero, List.set_cons_succ]
            refine wpAnyH_ready (rs := [11]) (by kernel_rfl) (by simp) ?_
            refine AllReadyH.cons (i := 11) rfl (fun K hKK => ?_) AllReadyH.nil
            go_simp
            ((with_reducible refine (HC3 _).mono ?_); rintro e u11 ⟨rfl, gu⟩)
            (try dsimp only)
            have HN11 := hid (show At u11 C (buA x) 30 ∧ At u11 w.heap.size (stC s).toArray 33 ∧ Below w.heap.size w u11 from ⟨HN7.out.1.below gu, HN7.out.2.1.below gu, Ev.bt HN7.out.2.2 gu⟩)
            clear gu
            refine hKK.out _ _ HN11.out.1 (fun hHeld => ?_)
            clear hKK K
            (try simp only [Act.put, List.setIfInBounds_toArray, List.set_cons_zero, List.set_cons_succ])
            (refine takeW (i := 12) (d := 94) (v := ?_) rfl rfl (by kernel_rfl) (by kernel_rfl) (by kernel_rfl) (fun _ _ _ h => h) (by rfl) ?_ (by assumption) ?_)
            rotate_left
            · (intro W hSW; go_simp; (try with_reducible rfl))
            simp only [Act.put, List.setIfInBounds_toArray, List.set_cons_zero, List.set_cons_succ]
            refine wpAnyH_ready (rs := [15]) (by kernel_rfl) (by simp) ?_
            refine AllReadyH.cons (i := 15) rfl (fun K hKK => ?_) AllReadyH.nil
            go_simp
            ((with_reducible refine (HC4 _).mono ?_); rintro e u15 ⟨rfl, gu⟩)
            (try dsimp only)
            have HN15 := hid (show At u15 C (buA x) 30 ∧ At u15 w.heap.size (stC s).toArray 33 ∧ Below w.heap.size w u15 from ⟨HN11.out.1.below gu, HN11.out.2.1.below gu, Ev.bt HN11.out.2.2 gu⟩)
            clear gu
            refine hKK.out _ _ HN15.out.1 (fun hHeld => ?_)
            clear hKK K
            (try simp only [Act.put, List.setIfInBounds_toArray, List.set_cons_zero, List.set_cons_succ])
            (refine takeW (i := 16) (d := 98) (v := ?_) rfl rfl (by kernel_rfl) (by kernel_rfl) (by kernel_rfl) (fun _ _ _ h => h) (by rfl) ?_ (by assumption) ?_)
            rotate_left
            · (intro W hSW; go_simp; (try with_reducible rfl))
            simp only [Act.put, List.setIfInBounds_toArray, List.set_cons_zero, List.set_cons_succ]
            (refine takeW (i := 17) (d := 7) (v := ?_) rfl rfl (by kernel_rfl) (by kernel_rfl) (by kernel_rfl) (fun _ _ _ h => h) (by rfl) ?_ (by assumption) ?_)
            rotate_left
            · (intro W hSW; go_simp; (try with_reducible rfl))
            simp only [Act.put, List.setIfInBounds_toArray, List.set_cons_zero, List.set_cons_succ]
            refine wpAnyH_done (by kernel_rfl) ?_ _
            refine NoPanic.normal ?_
            rw [HNe.out]
            clear hHeld HC1 HC2 HC3 HC4 l1 l2 l3 l4 E1 E2 E3 E4 hl1 hl2 hl3 hl4 ha1 ha2 ha3 ha4 HBp HNe
            go_wp2_with fail
            go_roundw
            case rel => (repeat apply Exists.intro); exact ⟨⟨k + 1, hlt, by go_num, by rw [← HTp.out], rfl, (by rw [HPw.out]; go_num), HN15.out.2.1, HN15.out.2.2⟩, rfl⟩
            case measure => simp [intOf]; omega
          · rw [hd] at hz
            have hx : x = zeroB := of_decide_eq_true hd
            have hbit : bit x = 0 := if_pos hx
            have HBp : Hid (behB s (k + 1) = bh) := hid (by rw [HBs.out]; unfold buB; rw [if_pos hx, List.append_nil])
            have HTp : Hid (bitsT s (k + 1) = bb) := hid (by rw [HTs.out, hbit, Nat.mul_zero, Nat.add_zero])
            clear HBs HTs hbit hd
            go_wp2_with fail
            go_roundw
            case rel => (repeat apply Exists.intro); exact ⟨⟨k + 1, hlt, by go_num, by rw [HTp.out], by rw [HBp.out], (by rw [HPw.out]; go_num), HAx.out, HBx.out⟩, rfl⟩
            case measure => simp [intOf]; omega
        · have hk6 : k = 6 := by omega
          subst hk6
          have hbl := bits_lt s 6
          have HFin : Hid (bytesS s = t ++ numB (bitsT s 6 : Int) ++ behB s 6) := hid (by rw [← HHd.out]; rfl)
          have HC1 := fun W => rn_c (bitsT s 6 : Int) W (by omega) (by omega)
          have l1 := numB_len (bitsT s 6 : Int) (by omega)
          generalize numB (bitsT s 6 : Int) = b1 at HC1 l1 HFin
          generalize behB s 6 = bh at HBl HFin
          obtain ⟨e1, E1⟩ : ∃ c, Hid (c = t ++ b1) := ⟨_, hid rfl⟩
          have hl1 := len_to E1
          have ha1 := fun W => add_to E1 (by omega) W
          obtain ⟨e2, E2⟩ : ∃ c, Hid (c = e1 ++ bh) := ⟨_, hid rfl⟩
          have hl2 := len_to E2
          have ha2 := fun W => add_to E2 (by omega) W
          have HNe : Hid (bytesS s = e2) := hid (by rw [HFin.out, E2.out, E1.out])
          generalize bitsT s 6 = bb at HC1
          go_wp2_with (go_at_call 22; ((with_reducible refine (HC1 _).mono ?_); rintro e w9 ⟨rfl, g9⟩; have HB9 := hid (Ev.bt HB2.out g9)))
          go_ret
          exact ⟨by rw [HNe.out]; rfl, HB9.out⟩

set_option maxRecDepth 100000 in
theorem rsum_c (s : St) (w : World) (hT : Ty s) (hr : rightS s = true) :
    Calls Try.prog 12 #[.agg (stC s).toArray] w fun e w' => e = .returned (.int .u32 (Sm.ofI (bytesS s))) ∧ Below w.heap.size w w' := by
  have HA := hid (At.new w (stC s).toArray 33)
  have HB := hid (Ev.bal (Ev.br w) (.cells (stC s).toArray 33))
  have HP := fun W => rpack_c s W hT hr
  have HL : (bytesS s).length ≤ 601 := bytes_len2 hT hr
  have HOf : ∀ W, Calls Try.prog 25 #[.string ⟨(bytesS s).toArray⟩] W (fun e w' => e = .returned (.int .u32 (Sm.ofI (bytesS s))) ∧ W = w') := fun W => Sm.rof_c ⟨(bytesS s).toArray⟩ W (by rw [show (⟨(bytesS s).toArray⟩ : ByteArray).size = (bytesS s).length from (show (bytesS s).toArray.size = _ by simp)]; unfold maxLen; omega)
  generalize Sm.ofI (bytesS s) = n at HOf ⊢
  generalize bytesS s = τ at HP HOf
  generalize hC : stC s = cs at HA HB HP
  go_enter Try.func12, Try.ntmps12
  go_upto_region 1 with fail
  generalize World.alloc w _ = w0 at HA HB ⊢
  have hC2 : ∀ j v, cs[j]? = some v → (cs.toArray)[0 + j]? = some v := fun j v h => by rw [Nat.zero_add]; exact (List.getElem?_toArray).trans h
  have hC3 : (Try.prog.info? 33).map (·.size) = some cs.length := by rw [← hC]; kernel_rfl
  go_wp2_with (first
    | (refine wpList_load_at rfl 33 _ rfl w.heap.size 0 rfl 33 _ cs (0, 0) _ HA.out Try.underlying33 rfl hC3 hC2 ?_)
    | (go_at_call 11; ((with_reducible refine (HP _).mono ?_); rintro e w1 ⟨rfl, g1⟩; have HB1 := hid (Ev.bt HB.out g1)))
    | (go_at_call 25; ((with_reducible refine (HOf _).mono ?_); rintro e w2 ⟨rfl, rfl⟩)))
  go_ret
  exact ⟨rfl, HB1.out⟩
end Go.Proofs.Ythbncbdnpeglfaa.Fz
