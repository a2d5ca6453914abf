/- The walk of FreezeDiffers (layer 13, freeze). -/
import Derived.Test.YthbncbdnpeglfaaFzLa
namespace Go.Proofs.Ythbncbdnpeglfaa.Fz
open Go.RowKit
open Go.Proofs.Ythbncbdnpeglfaa.Ev (At)
open Go.Proofs.Ythbncbdnpeglfaa.Gm (hid Pl Bu St plC plA buC buA stC stV zeroP zeroB zeroS fresh0 fresh1 beginS plS setP shS setS rightS takeW wpList_load_at wpList_store_at wp_store_at at_row at_row_far below_row rright_c rstart_c eqS neqS runP runBs shC)
open Go.Proofs.Ythbncbdnpeglfaa.Pk (numL)
set_option linter.unusedVariables false

theorem eqP (x y : Pl) (w : World) : (binOp .eql 27 (Gm.plV x) (Gm.plV y)).run Try.prog w = .ok (.bool (decide (x = y))) w := by
  rw [run_eql_struct, show (10000 : Nat) = 9997 + 1 + 1 + 1 from rfl, runP]; rfl
set_option maxRecDepth 100000 in
theorem eqBs (a b : St) (w : World) : (binOp .eql 31 (.agg (shC a).toArray) (.agg (shC b).toArray)).run Try.prog w = .ok (.bool (decide (shotsT a = shotsT b))) w := by
  have h := runBs 9996 a.s0 a.s1 a.s2 a.s3 a.s4 a.s5 b.s0 b.s1 b.s2 b.s3 b.s4 b.s5 w
  have e : (10000 : Nat) = 9996 + 1 + 1 + 1 + 1 := rfl
  have ea : decide (shotsT a = shotsT b) = decide (a.s0 = b.s0 ∧ a.s1 = b.s1 ∧ a.s2 = b.s2 ∧ a.s3 = b.s3 ∧ a.s4 = b.s4 ∧ a.s5 = b.s5) := by
    unfold shotsT
    simp only [Prod.mk.injEq]
  rw [run_eql_struct, e]
  unfold shC
  rw [h, ea]; rfl
theorem exec_eqP {o : Oper} {ev : Operand → Value} (w : World) (x y : Operand) (t2 : TypeId) (ho : o.op = .binOp .eql 27 x y t2) (s1 s2 : Pl) (hx : ev x = .agg (plC s1).toArray) (hy : ev y = .agg (plC s2).toArray) :
    (execOp ev o).run Try.prog w = .ok (.value (.bool (decide (s1 = s2)))) w := by
  have hg := run_eqGuard_agg (P := Try.prog) (w := w) .eql 27 x y (plC s1).toArray (plC s2).toArray guardP
  have hb := eqP s1 s2 w
  unfold execOp
  simp only [ho, hx, hy, Sem.run_bind, Sem.run_pure, Result.andThen_ok, hg, hb]
set_option maxRecDepth 100000 in
theorem exec_eqBs {o : Oper} {ev : Operand → Value} (w : World) (x y : Operand) (t2 : TypeId) (ho : o.op = .binOp .eql 31 x y t2) (s1 s2 : St) (hx : ev x = .agg (shC s1).toArray) (hy : ev y = .agg (shC s2).toArray) :
    (execOp ev o).run Try.prog w = .ok (.value (.bool (decide (shotsT s1 = shotsT s2)))) w := by
  have hg := run_eqGuard_agg (P := Try.prog) (w := w) .eql 31 x y (shC s1).toArray (shC s2).toArray guardBs
  have hb := eqBs s1 s2 w
  unfold execOp
  simp only [ho, hx, hy, Sem.run_bind, Sem.run_pure, Result.andThen_ok, hg, hb]

def namesC : Array Value := #[.string ⟨#[102, 114, 97, 109, 101]⟩, .string ⟨#[100, 105, 99, 101]⟩, .string ⟨#[114, 111, 117, 110, 100]⟩, .string ⟨#[108, 101, 102, 116]⟩, .string ⟨#[111, 110, 101]⟩, .string ⟨#[116, 119, 111]⟩, .string ⟨#[115, 104, 111, 116, 115]⟩]
def sameC (a b : St) : Array Value := #[.bool (a.fr == b.fr), .bool (a.di == b.di), .bool (a.rd == b.rd), .bool (a.lf == b.lf), .bool (decide (a.p0 = b.p0)), .bool (decide (a.p1 = b.p1)), .bool (decide (shotsT a = shotsT b))]
theorem names_at (k : Nat) (hk : k < 7) : namesC[k]? = some (.string ⟨(pName k).toArray⟩) := by
  have hh : k = 0 ∨ k = 1 ∨ k = 2 ∨ k = 3 ∨ k = 4 ∨ k = 5 ∨ k = 6 := by omega
  rcases hh with rfl | rfl | rfl | rfl | rfl | rfl | rfl <;> rfl
theorem same_at (a b : St) (k : Nat) (hk : k < 7) : (sameC a b)[k]? = some (.bool (!pDif a b k)) := by
  have hh : k = 0 ∨ k = 1 ∨ k = 2 ∨ k = 3 ∨ k = 4 ∨ k = 5 ∨ k = 6 := by omega
  rcases hh with rfl | rfl | rfl | rfl | rfl | rfl | rfl <;> simp [sameC, pDif, bne]
theorem diff_pre (a b : St) : ∀ d t, ∃ r, diffL a b (t + d) = diffL a b t ++ r
  | 0, t => ⟨[], by simp⟩
  | d + 1, t => by
    obtain ⟨r, h⟩ := diff_pre a b d t
    show ∃ r, (if pDif a b (t + d) then diffL a b (t + d) ++ [pName (t + d)] else diffL a b (t + d)) = _
    rw [h]
    split
    · exact ⟨r ++ [pName (t + d)], by rw [List.append_assoc]⟩
    · exact ⟨r, rfl⟩
theorem diff_next (a b : St) (k : Nat) (h : pDif a b k = true) : diffL a b (k + 1) = diffL a b k ++ [pName k] := by
  show (if pDif a b k then _ else _) = _
  rw [if_pos h]
theorem diff_skip (a b : St) (k : Nat) (h : pDif a b k = false) : diffL a b (k + 1) = diffL a b k := by
  show (if pDif a b k then _ else _) = _
  rw [if_neg (by rw [h]; decide)]
theorem diff_at (a b : St) (k : Nat) (hk : k < 7) (h : pDif a b k = true) : ∃ hl : (diffL a b k).length < (diffL a b 7).length, (diffL a b 7)[(diffL a b k).length] = pName k := by
  obtain ⟨r, hr⟩ := diff_pre a b (7 - (k + 1)) (k + 1)
  rw [show k + 1 + (7 - (k + 1)) = 7 by omega, diff_next a b k h] at hr
  rw [hr]
  refine ⟨by simp, ?_⟩
  simp
theorem diff_nil (a b : St) (h : diffL a b 7 = []) : a = b := by
  have hp : ∀ k, k < 7 → pDif a b k = false := fun k hk => by
    cases hd : pDif a b k with
    | false => rfl
    | true =>
      obtain ⟨hl, _⟩ := diff_at a b k hk hd
      rw [h] at hl
      exact absurd hl (by simp)
  have h0 : (a.fr != b.fr) = false := hp 0 (by decide)
  have h1 : (a.di != b.di) = false := hp 1 (by decide)
  have h2 : (a.rd != b.rd) = false := hp 2 (by decide)
  have h3 : (a.lf != b.lf) = false := hp 3 (by decide)
  have h4 : (!decide (a.p0 = b.p0)) = false := hp 4 (by decide)
  have h5 : (!decide (a.p1 = b.p1)) = false := hp 5 (by decide)
  have h6 : (!decide (shotsT a = shotsT b)) = false := hp 6 (by decide)
  obtain ⟨a0, a1, a2, a3, a4, a5, a6, a7, a8, a9, aa, ab⟩ := a
  obtain ⟨b0, b1, b2, b3, b4, b5, b6, b7, b8, b9, ba, bb⟩ := b
  unfold shotsT at h6
  simp at h0 h1 h2 h3 h4 h5 h6
  obtain ⟨i0, i1, i2, i3, i4, i5⟩ := h6
  subst h0 h1 h2 h3 h4 h5 i0 i1 i2 i3 i4 i5
  rfl
theorem diff_self (a : St) : ∀ t, diffL a a t = []
  | 0 => rfl
  | t + 1 => by
    rw [diff_skip a a t ?_, diff_self a t]
    unfold pDif
    split <;> simp

set_option maxRecDepth 100000 in
set_option maxHeartbeats 8000000 in
theorem differs_w (a b : St) (w : World) (hTa : Ty a) (hTb : Ty b) :
    Calls Try.prog 5 #[.agg (stC a).toArray, .agg (stC b).toArray] w fun e w' => e = .returned (.bool true) ∧ Below w.heap.size w w' := by
  have HA := hid ((At.new w (stC a).toArray 33).more (.cells (stC b).toArray 33))
  have HZ := hid (At.new (w.alloc (.cells (stC a).toArray 33)) (stC b).toArray 33)
  have HB := hid (Ev.bal (Ev.bal (Ev.br w) (.cells (stC a).toArray 33)) (.cells (stC b).toArray 33))
  have HTa := hid hTa
  have HTb := hid hTb
  have HDf := fun W => differ_c a b W
  have HPa := fun W => pack_c a W hTa
  have HPb := fun W => pack_c b W hTb
  clear hTa hTb
  generalize hC : stC a = ca at HA HZ HB HDf HPa
  generalize hD : stC b = cb at HA HZ HB HDf HPb
  go_enter Try.func5, Try.ntmps5
  go_upto_region 1 with fail
  subst hC
  subst hD
  generalize hw : World.alloc (World.alloc w _) _ = w0
  have HA0 : Hid (At w0 w.heap.size (stC a).toArray 33) := hid (by rw [← hw]; exact HA.out)
  have HZ0 : Hid (At w0 (w.heap.size + 1) (stC b).toArray 33) := hid (by rw [← hw]; have := HZ.out; rw [show (w.alloc (.cells (stC a).toArray 33)).heap.size = w.heap.size + 1 by simp] at this; exact this)
  have HB0 : Hid (Below w.heap.size w w0) := hid (by rw [← hw]; exact HB.out)
  clear hw HA HZ HB
  go_upto_region 3 with (go_at_call 6; ((with_reducible refine (awake_c _).mono ?_); rintro e w1 ⟨rfl, g1⟩; have HB1 := hid (Ev.bt HB0.out g1); have HA1 := hid (HA0.out.below g1); have HZ1 := hid (HZ0.out.below g1)))
  clear HA0 HZ0 HB0
  go_upto_region 4 with fail
  have HN2x := hid (At.new w1 namesC 9)
  have HA2x := hid (HA1.out.below (Ev.bal (Ev.br w1) (.cells namesC 9)))
  have HZ2x := hid (HZ1.out.below (Ev.bal (Ev.br w1) (.cells namesC 9)))
  have HB2x := hid (Ev.bt HB1.out (Ev.bal (Ev.br w1) (.cells namesC 9)))
  generalize hW : World.alloc w1 _ = w2
  have HN2 : Hid (At w2 w1.heap.size namesC 9) := hid (by rw [← hW]; exact HN2x.out)
  have HA2 : Hid (At w2 w.heap.size (stC a).toArray 33) := hid (by rw [← hW]; exact HA2x.out)
  have HZ2 : Hid (At w2 (w.heap.size + 1) (stC b).toArray 33) := hid (by rw [← hW]; exact HZ2x.out)
  have HB2 : Hid (Below w.heap.size w w2) := hid (by rw [← hW]; exact HB2x.out)
  clear hW HN2x HA2x HZ2x HB2x HA1 HZ1 HB1
  generalize w1.heap.size = g1 at HN2 ⊢
  refine wp_region_noPanic ?_
  refine wp_region_held_drew (S := (fun W => At W w.heap.size (stC a).toArray 33 ∧ At W (w.heap.size + 1) (stC b).toArray 33)) (by kernel_rfl) ⟨HA2.out.drew, HZ2.out.drew⟩ (fun hHeld => ?_)
  (refine takeW (i := 0) (d := 17) (v := ?_) rfl rfl (by kernel_rfl) (by kernel_rfl) (by kernel_rfl) (fun _ _ _ h => h) (by rfl) ?_ (by assumption) ?_)
  rotate_left
  · (intro W hSW; go_simp; (try with_reducible rfl))
  simp only [Act.put, List.setIfInBounds_toArray, List.set_cons_zero, List.set_cons_succ]
  (refine takeW (i := 1) (d := 18) (v := ?_) rfl rfl (by kernel_rfl) (by kernel_rfl) (by kernel_rfl) (fun _ _ _ h => h) (by rfl) ?_ (by assumption) ?_)
  rotate_left
  · (intro W hSW; obtain ⟨a0, a1, a2, a3⟩ := Gm.at_st hSW.1; obtain ⟨b0, b1, b2, b3⟩ := Gm.at_st hSW.2; go_simp; (try with_reducible rfl))
  simp only [Act.put, List.setIfInBounds_toArray, List.set_cons_zero, List.set_cons_succ]
  (refine takeW (i := 2) (d := 19) (v := ?_) rfl rfl (by kernel_rfl) (by kernel_rfl) (by kernel_rfl) (fun _ _ _ h => h) (by rfl) ?_ (by assumption) ?_)
  rotate_left
  · (intro W hSW; go_simp; (try with_reducible rfl))
  simp only [Act.put, List.setIfInBounds_toArray, List.set_cons_zero, List.set_cons_succ]
  (refine takeW (i := 3) (d := 20) (v := ?_) rfl rfl (by kernel_rfl) (by kernel_rfl) (by kernel_rfl) (fun _ _ _ h => h) (by rfl) ?_ (by assumption) ?_)
  rotate_left
  · (intro W hSW; obtain ⟨a0, a1, a2, a3⟩ := Gm.at_st hSW.1; obtain ⟨b0, b1, b2, b3⟩ := Gm.at_st hSW.2; go_simp; (try with_reducible rfl))
  simp only [Act.put, List.setIfInBounds_toArray, List.set_cons_zero, List.set_cons_succ]
  (refine takeW (i := 4) (d := 21) (v := ?_) rfl rfl (by kernel_rfl) (by kernel_rfl) (by kernel_rfl) (fun _ _ _ h => h) (by rfl) ?_ (by assumption) ?_)
  rotate_left
  · (intro W hSW; go_simp; (try with_reducible rfl))
  simp only [Act.put, List.setIfInBounds_toArray, List.set_cons_zero, List.set_cons_succ]
  (refine takeW (i := 5) (d := 22) (v := ?_) rfl rfl (by kernel_rfl) (by kernel_rfl) (by kernel_rfl) (fun _ _ _ h => h) (by rfl) ?_ (by assumption) ?_)
  rotate_left
  · (intro W hSW; go_simp; (try with_reducible rfl))
  simp only [Act.put, List.setIfInBounds_toArray, List.set_cons_zero, List.set_cons_succ]
  (refine takeW (i := 6) (d := 23) (v := ?_) rfl rfl (by kernel_rfl) (by kernel_rfl) (by kernel_rfl) (fun _ _ _ h => h) (by rfl) ?_ (by assumption) ?_)
  rotate_left
  · (intro W hSW; obtain ⟨a0, a1, a2, a3⟩ := Gm.at_st hSW.1; obtain ⟨b0, b1, b2, b3⟩ := Gm.at_st hSW.2; go_simp; (try with_reducible rfl))
  simp only [Act.put, List.setIfInBounds_toArray, List.set_cons_zero, List.set_cons_succ]
  (refine takeW (i := 7) (d := 24) (v := ?_) rfl rfl (by kernel_rfl) (by kernel_rfl) (by kernel_rfl) (fun _ _ _ h => h) (by rfl) ?_ (by assumption) ?_)
  rotate_left
  · (intro W hSW; go_simp; (try with_reducible rfl))
  simp only [Act.put, List.setIfInBounds_toArray, List.set_cons_zero, List.set_cons_succ]
  (refine takeW (i := 8) (d := 25) (v := ?_) rfl rfl (by kernel_rfl) (by kernel_rfl) (by kernel_rfl) (fun _ _ _ h => h) (by rfl) ?_ (by assumption) ?_)
  rotate_left
  · (intro W hSW; obtain ⟨a0, a1, a2, a3⟩ := Gm.at_st hSW.1; obtain ⟨b0, b1, b2, b3⟩ := Gm.at_st hSW.2; go_simp; (try with_reducible rfl))
  simp only [Act.put, List.setIfInBounds_toArray, List.set_cons_zero, List.set_cons_succ]
  (refine takeW (i := 9) (d := 26) (v := ?_) rfl rfl (by kernel_rfl) (by kernel_rfl) (by kernel_rfl) (fun _ _ _ h => h) (by rfl) ?_ (by assumption) ?_)
  rotate_left
  · (intro W hSW; go_simp; (try with_reducible rfl))
  simp only [Act.put, List.setIfInBounds_toArray, List.set_cons_zero, List.set_cons_succ]
  (refine takeW (i := 10) (d := 27) (v := ?_) rfl rfl (by kernel_rfl) (by kernel_rfl) (by kernel_rfl) (fun _ _ _ h => h) (by rfl) ?_ (by assumption) ?_)
  rotate_left
  · (intro W hSW; go_simp; (try with_reducible rfl))
  simp only [Act.put, List.setIfInBounds_toArray, List.set_cons_zero, List.set_cons_succ]
  (refine takeW (i := 11) (d := 28) (v := ?_) rfl rfl (by kernel_rfl) (by kernel_rfl) (by kernel_rfl) (fun _ _ _ h => h) (by rfl) ?_ (by assumption) ?_)
  rotate_left
  · (intro W hSW; obtain ⟨a0, a1, a2, a3⟩ := Gm.at_st hSW.1; obtain ⟨b0, b1, b2, b3⟩ := Gm.at_st hSW.2; go_simp; (try with_reducible rfl))
  simp only [Act.put, List.setIfInBounds_toArray, List.set_cons_zero, List.set_cons_succ]
  (refine takeW (i := 12) (d := 29) (v := ?_) rfl rfl (by kernel_rfl) (by kernel_rfl) (by kernel_rfl) (fun _ _ _ h => h) (by rfl) ?_ (by assumption) ?_)
  rotate_left
  · (intro W hSW; go_simp; (try with_reducible rfl))
  simp only [Act.put, List.setIfInBounds_toArray, List.set_cons_zero, List.set_cons_succ]
  (refine takeW (i := 13) (d := 30) (v := ?_) rfl rfl (by kernel_rfl) (by kernel_rfl) (by kernel_rfl) (fun _ _ _ h => h) (by rfl) ?_ (by assumption) ?_)
  rotate_left
  · (intro W hSW; obtain ⟨a0, a1, a2, a3⟩ := Gm.at_st hSW.1; obtain ⟨b0, b1, b2, b3⟩ := Gm.at_st hSW.2; go_simp; (try with_reducible rfl))
  simp only [Act.put, List.setIfInBounds_toArray, List.set_cons_zero, List.set_cons_succ]
  (refine takeW (i := 14) (d := 31) (v := ?_) rfl rfl (by kernel_rfl) (by kernel_rfl) (by kernel_rfl) (fun _ _ _ h => h) (by rfl) ?_ (by assumption) ?_)
  rotate_left
  · (intro W hSW; go_simp; (try with_reducible rfl))
  simp only [Act.put, List.setIfInBounds_toArray, List.set_cons_zero, List.set_cons_succ]
  (refine takeW (i := 15) (d := 32) (v := ?_) rfl rfl (by kernel_rfl) (by kernel_rfl) (by kernel_rfl) (fun _ _ _ h => h) (by rfl) ?_ (by assumption) ?_)
  rotate_left
  · (intro W hSW; go_simp; (try with_reducible rfl))
  simp only [Act.put, List.setIfInBounds_toArray, List.set_cons_zero, List.set_cons_succ]
  (refine takeW (i := 16) (d := 33) (v := ?_) rfl rfl (by kernel_rfl) (by kernel_rfl) (by kernel_rfl) (fun _ _ _ h => h) (by rfl) ?_ (by assumption) ?_)
  rotate_left
  · (intro W hSW; obtain ⟨a0, a1, a2, a3⟩ := Gm.at_st hSW.1; obtain ⟨b0, b1, b2, b3⟩ := Gm.at_st hSW.2; go_simp; (try with_reducible rfl))
  simp only [Act.put, List.setIfInBounds_toArray, List.set_cons_zero, List.set_cons_succ]
  (refine takeW (i := 17) (d := 34) (v := ?_) rfl rfl (by kernel_rfl) (by kernel_rfl) (by kernel_rfl) (fun _ _ _ h => h) (by rfl) ?_ (by assumption) ?_)
  rotate_left
  · (intro W hSW; go_simp; (try with_reducible rfl))
  simp only [Act.put, List.setIfInBounds_toArray, List.set_cons_zero, List.set_cons_succ]
  (refine takeW (i := 18) (d := 35) (v := ?_) rfl rfl (by kernel_rfl) (by kernel_rfl) (by kernel_rfl) (fun _ _ _ h => h) (by rfl) ?_ (by assumption) ?_)
  rotate_left
  · (intro W hSW; obtain ⟨a0, a1, a2, a3⟩ := Gm.at_st hSW.1; obtain ⟨b0, b1, b2, b3⟩ := Gm.at_st hSW.2; go_simp; (try with_reducible rfl))
  simp only [Act.put, List.setIfInBounds_toArray, List.set_cons_zero, List.set_cons_succ]
  (refine takeW (i := 19) (d := 36) (v := ?_) rfl rfl (by kernel_rfl) (by kernel_rfl) (by kernel_rfl) (fun _ _ _ h => h) (by rfl) ?_ (by assumption) ?_)
  rotate_left
  · (intro W hSW; go_simp; (try with_reducible rfl))
  simp only [Act.put, List.setIfInBounds_toArray, List.set_cons_zero, List.set_cons_succ]
  (refine takeW (i := 20) (d := 37) (v := ?_) rfl rfl (by kernel_rfl) (by kernel_rfl) (by kernel_rfl) (fun _ _ _ h => h) (by rfl) ?_ (by assumption) ?_)
  rotate_left
  · (intro W hSW; go_simp; (try with_reducible rfl))
  simp only [Act.put, List.setIfInBounds_toArray, List.set_cons_zero, List.set_cons_succ]
  (refine takeW (i := 21) (d := 38) (v := ?_) rfl rfl (by kernel_rfl) (by kernel_rfl) (by kernel_rfl) (fun _ _ _ h => h) (by rfl) ?_ (by assumption) ?_)
  rotate_left
  · (intro W hSW; go_simp; (try with_reducible rfl))
  simp only [Act.put, List.setIfInBounds_toArray, List.set_cons_zero, List.set_cons_succ]
  (refine takeW (i := 22) (d := 39) (v := .agg (plC a.p0).toArray) rfl rfl (by kernel_rfl) (by kernel_rfl) (by kernel_rfl) (fun _ _ _ h => h) (by rfl) ?_ (by assumption) ?_)
  · (intro W hSW; exact exec_load_at W 27 _ rfl w.heap.size 4 rfl 33 _ (plC a.p0) (0, 0) _ hSW.1 Try.underlying27 rfl (by kernel_rfl) (stC_p0 a))
  simp only [Act.put, List.setIfInBounds_toArray, List.set_cons_zero, List.set_cons_succ]
  (refine takeW (i := 23) (d := 40) (v := ?_) rfl rfl (by kernel_rfl) (by kernel_rfl) (by kernel_rfl) (fun _ _ _ h => h) (by rfl) ?_ (by assumption) ?_)
  rotate_left
  · (intro W hSW; go_simp; (try with_reducible rfl))
  simp only [Act.put, List.setIfInBounds_toArray, List.set_cons_zero, List.set_cons_succ]
  (refine takeW (i := 24) (d := 41) (v := ?_) rfl rfl (by kernel_rfl) (by kernel_rfl) (by kernel_rfl) (fun _ _ _ h => h) (by rfl) ?_ (by assumption) ?_)
  rotate_left
  · (intro W hSW; go_simp; (try with_reducible rfl))
  simp only [Act.put, List.setIfInBounds_toArray, List.set_cons_zero, List.set_cons_succ]
  (refine takeW (i := 25) (d := 42) (v := .agg (plC b.p0).toArray) rfl rfl (by kernel_rfl) (by kernel_rfl) (by kernel_rfl) (fun _ _ _ h => h) (by rfl) ?_ (by assumption) ?_)
  · (intro W hSW; exact exec_load_at W 27 _ rfl (w.heap.size + 1) 4 rfl 33 _ (plC b.p0) (0, 0) _ hSW.2 Try.underlying27 rfl (by kernel_rfl) (stC_p0 b))
  simp only [Act.put, List.setIfInBounds_toArray, List.set_cons_zero, List.set_cons_succ]
  (refine takeW (i := 26) (d := 43) (v := .bool (decide (a.p0 = b.p0))) rfl rfl (by kernel_rfl) (by kernel_rfl) (by kernel_rfl) (fun _ _ _ h => h) (by rfl) ?_ (by assumption) ?_)
  · (intro W hSW; exact exec_eqP W _ _ _ rfl (a.p0) (b.p0) rfl rfl)
  simp only [Act.put, List.setIfInBounds_toArray, List.set_cons_zero, List.set_cons_succ]
  (refine takeW (i := 27) (d := 44) (v := ?_) rfl rfl (by kernel_rfl) (by kernel_rfl) (by kernel_rfl) (fun _ _ _ h => h) (by rfl) ?_ (by assumption) ?_)
  rotate_left
  · (intro W hSW; go_simp; (try with_reducible rfl))
  simp only [Act.put, List.setIfInBounds_toArray, List.set_cons_zero, List.set_cons_succ]
  (refine takeW (i := 28) (d := 45) (v := ?_) rfl rfl (by kernel_rfl) (by kernel_rfl) (by kernel_rfl) (fun _ _ _ h => h) (by rfl) ?_ (by assumption) ?_)
  rotate_left
  · (intro W hSW; go_simp; (try with_reducible rfl))
  simp only [Act.put, List.setIfInBounds_toArray, List.set_cons_zero, List.set_cons_succ]
  (refine takeW (i := 29) (d := 46) (v := .agg (plC a.p1).toArray) rfl rfl (by kernel_rfl) (by kernel_rfl) (by kernel_rfl) (fun _ _ _ h => h) (by rfl) ?_ (by assumption) ?_)
  · (intro W hSW; exact exec_load_at W 27 _ rfl w.heap.size 14 rfl 33 _ (plC a.p1) (0, 0) _ hSW.1 Try.underlying27 rfl (by kernel_rfl) (stC_p1 a))
  simp only [Act.put, List.setIfInBounds_toArray, List.set_cons_zero, List.set_cons_succ]
  (refine takeW (i := 30) (d := 47) (v := ?_) rfl rfl (by kernel_rfl) (by kernel_rfl) (by kernel_rfl) (fun _ _ _ h => h) (by rfl) ?_ (by assumption) ?_)
  rotate_left
  · (intro W hSW; go_simp; (try with_reducible rfl))
  simp only [Act.put, List.setIfInBounds_toArray, List.set_cons_zero, List.set_cons_succ]
  (refine takeW (i := 31) (d := 48) (v := ?_) rfl rfl (by kernel_rfl) (by kernel_rfl) (by kernel_rfl) (fun _ _ _ h => h) (by rfl) ?_ (by assumption) ?_)
  rotate_left
  · (intro W hSW; go_simp; (try with_reducible rfl))
  simp only [Act.put, List.setIfInBounds_toArray, List.set_cons_zero, List.set_cons_succ]
  (refine takeW (i := 32) (d := 49) (v := .agg (plC b.p1).toArray) rfl rfl (by kernel_rfl) (by kernel_rfl) (by kernel_rfl) (fun _ _ _ h => h) (by rfl) ?_ (by assumption) ?_)
  · (intro W hSW; exact exec_load_at W 27 _ rfl (w.heap.size + 1) 14 rfl 33 _ (plC b.p1) (0, 0) _ hSW.2 Try.underlying27 rfl (by kernel_rfl) (stC_p1 b))
  simp only [Act.put, List.setIfInBounds_toArray, List.set_cons_zero, List.set_cons_succ]
  (refine takeW (i := 33) (d := 50) (v := .bool (decide (a.p1 = b.p1))) rfl rfl (by kernel_rfl) (by kernel_rfl) (by kernel_rfl) (fun _ _ _ h => h) (by rfl) ?_ (by assumption) ?_)
  · (intro W hSW; exact exec_eqP W _ _ _ rfl (a.p1) (b.p1) rfl rfl)
  simp only [Act.put, List.setIfInBounds_toArray, List.set_cons_zero, List.set_cons_succ]
  (refine takeW (i := 34) (d := 51) (v := ?_) rfl rfl (by kernel_rfl) (by kernel_rfl) (by kernel_rfl) (fun _ _ _ h => h) (by rfl) ?_ (by assumption) ?_)
  rotate_left
  · (intro W hSW; go_simp; (try with_reducible rfl))
  simp only [Act.put, List.setIfInBounds_toArray, List.set_cons_zero, List.set_cons_succ]
  (refine takeW (i := 35) (d := 52) (v := .agg (shC a).toArray) rfl rfl (by kernel_rfl) (by kernel_rfl) (by kernel_rfl) (fun _ _ _ h => h) (by rfl) ?_ (by assumption) ?_)
  · (intro W hSW; exact exec_load_at W 31 _ rfl w.heap.size 24 rfl 33 _ (shC a) (0, 0) _ hSW.1 Try.underlying31 rfl (by kernel_rfl) (Gm.stC_sh0 a))
  simp only [Act.put, List.setIfInBounds_toArray, List.set_cons_zero, List.set_cons_succ]
  (refine takeW (i := 36) (d := 53) (v := ?_) rfl rfl (by kernel_rfl) (by kernel_rfl) (by kernel_rfl) (fun _ _ _ h => h) (by rfl) ?_ (by assumption) ?_)
  rotate_left
  · (intro W hSW; go_simp; (try with_reducible rfl))
  simp only [Act.put, List.setIfInBounds_toArray, List.set_cons_zero, List.set_cons_succ]
  (refine takeW (i := 37) (d := 54) (v := .agg (shC b).toArray) rfl rfl (by kernel_rfl) (by kernel_rfl) (by kernel_rfl) (fun _ _ _ h => h) (by rfl) ?_ (by assumption) ?_)
  · (intro W hSW; exact exec_load_at W 31 _ rfl (w.heap.size + 1) 24 rfl 33 _ (shC b) (0, 0) _ hSW.2 Try.underlying31 rfl (by kernel_rfl) (Gm.stC_sh0 b))
  simp only [Act.put, List.setIfInBounds_toArray, List.set_cons_zero, List.set_cons_succ]
  (refine takeW (i := 38) (d := 55) (v := .bool (decide (shotsT a = shotsT b))) rfl rfl (by kernel_rfl) (by kernel_rfl) (by kernel_rfl) (fun _ _ _ h => h) (by rfl) ?_ (by assumption) ?_)
  · (intro W hSW; exact exec_eqBs W _ _ _ rfl a b rfl rfl)
  simp only [Act.put, List.setIfInBounds_toArray, List.set_cons_zero, List.set_cons_succ]
  refine wpAnyH_ready (rs := [39]) (by kernel_rfl) (by simp) ?_
  refine AllReadyH.cons (i := 39) rfl (fun K hKK => ?_) AllReadyH.nil
  go_simp
  refine hKK.out _ _ ⟨HA2.out.below (Ev.bd1 (Ev.bal (Ev.br _) _)), HZ2.out.below (Ev.bd1 (Ev.bal (Ev.br _) _))⟩ (fun hHeld => ?_)
  clear hKK K
  (try simp only [Act.put, List.setIfInBounds_toArray, List.set_cons_zero, List.set_cons_succ])
  generalize hW : World.drew _ = w3 at hHeld ⊢
  have HG3 : Hid (At w3 w2.heap.size (sameC a b) 4) := hid (by rw [← hW]; exact (At.new w2 (sameC a b) 4).drew)
  have HN3 : Hid (At w3 g1 namesC 9) := hid (by rw [← hW]; exact HN2.out.below (Ev.bd1 (Ev.bal (Ev.br w2) (.cells (sameC a b) 4))))
  have HA3 : Hid (At w3 w.heap.size (stC a).toArray 33) := hid (by rw [← hW]; exact HA2.out.below (Ev.bd1 (Ev.bal (Ev.br w2) (.cells (sameC a b) 4))))
  have HZ3 : Hid (At w3 (w.heap.size + 1) (stC b).toArray 33) := hid (by rw [← hW]; exact HZ2.out.below (Ev.bd1 (Ev.bal (Ev.br w2) (.cells (sameC a b) 4))))
  have HB3 : Hid (Below w.heap.size w w3) := hid (by rw [← hW]; exact Ev.bt HB2.out (Ev.bd1 (Ev.bal (Ev.br w2) (.cells (sameC a b) 4))))
  clear hW
  (refine takeW (i := 40) (d := 6) (v := ?_) rfl rfl (by kernel_rfl) (by kernel_rfl) (by kernel_rfl) (fun _ _ _ h => h) (by rfl) ?_ (by assumption) ?_)
  rotate_left
  · (intro W hSW; go_simp; (try with_reducible rfl))
  simp only [Act.put, List.setIfInBounds_toArray, List.set_cons_zero, List.set_cons_succ]
  refine wpAnyH_done (by kernel_rfl) ?_ _
  refine NoPanic.normal ?_
  clear hHeld HN2 HA2 HZ2 HB2
  generalize w2.heap.size = g2 at HG3 ⊢
  go_upto_region 6 with (first
    | ((with_reducible show wpList _ _ _ _ _ _); refine wpList_load_at rfl 33 _ rfl w.heap.size 0 rfl 33 _ (stC a) (0, 0) _ HA3.out Try.underlying33 rfl (by kernel_rfl) (stC_slf a) ?_)
    | ((with_reducible show wpList _ _ _ _ _ _); refine wpList_load_at rfl 33 _ rfl (w.heap.size + 1) 0 rfl 33 _ (stC b) (0, 0) _ HZ3.out Try.underlying33 rfl (by kernel_rfl) (stC_slf b) ?_)
    | (go_at_call 14; ((with_reducible refine (HDf _).mono ?_); rintro e w4 ⟨v, rfl, ho⟩; have HO4 := hid ho; have HA4 := hid (HA3.out.below ho.2.1); have HZ4 := hid (HZ3.out.below ho.2.1); have HG4 := hid (HG3.out.below ho.2.1); have HN4 := hid (HN3.out.below ho.2.1); have HB4 := hid (Ev.bt HB3.out ho.2.1); clear ho)))
  clear HG3 HN3 HA3 HZ3 HB3
  obtain ⟨ao, L, cap, rfl, hL, hc, hm, hcell⟩ := strs_of HO4.out
  have HLn := hid hL
  have HCl := hid hcell
  have hL7 : L ≤ 7 := by rw [← hL]; exact diff_len a b 7
  clear hL hcell HO4
  go_wp2_with fail
  go_loopw [8, 9] (fun n i wr => ∃ k : Nat, k ≤ 7 ∧ i = .int .i64 k ∧ n = .int .i64 ((diffL a b k).length : Int) ∧ Below w4.heap.size w4 wr) (fun _ i _ => 7 - (intOf i).toNat)
  case atStart => exact ⟨0, Nat.zero_le _, rfl, rfl, Ev.br _⟩
  case round =>
    obtain ⟨k, hk, rfl, rfl, hg⟩ := hrel
    have HW := hid hg
    clear hg
    by_cases hlt : k < 7
    · have hk0 : (0 : Int) ≤ (k : Int) := by omega
      have hk1 : (k : Int) < 7 := by omega
      have cs : wr.cell? ⟨g2, k, none⟩ = some (.bool (!pDif a b k)) := (cell_of_row wr g2 _ _ _ _ (HG4.out.below HW.out)).trans (same_at a b k hlt)
      have cn : wr.cell? ⟨g1, k, none⟩ = some (.string ⟨(pName k).toArray⟩) := (cell_of_row wr g1 _ _ _ _ (HN4.out.below HW.out)).trans (names_at k hlt)
      cases hd : pDif a b k
      · rw [hd] at cs
        have HE := hid (diff_skip a b k hd)
        clear hd cn
        go_wp2_with fail
        go_roundw
        case rel => first | exact ⟨k + 1, hlt, by go_num, by rw [HE.out], HW.out⟩ | ((repeat apply Exists.intro); exact ⟨⟨k + 1, hlt, by go_num, by rw [HE.out], HW.out⟩, rfl⟩)
        case measure => simp [intOf]; omega
      · rw [hd] at cs
        have HE := hid (diff_next a b k hd)
        obtain ⟨hl, hx⟩ := diff_at a b k hlt hd
        obtain ⟨b0, o0, rfl, hb0, hcl⟩ := HCl.out (by omega)
        have cl : wr.cell? ⟨b0, o0 + (diffL a b k).length, none⟩ = some (.string ⟨(pName k).toArray⟩) := (HW.out.cell (p := ⟨b0, o0 + (diffL a b k).length, none⟩) hb0).trans ((hcl _ hl).trans (by rw [hx]))
        rw [HLn.out] at hl
        have hl1 : ((diffL a b k).length : Int) < (L : Int) := by omega
        have HE2 : Hid (((diffL a b k).length : Int) + 1 = ((diffL a b (k + 1)).length : Int)) := hid (by rw [HE.out, List.length_append]; simp)
        clear hd hx hcl HE
        have hl2 : (diffL a b k).length ≤ 7 := Nat.le_trans (diff_len a b k) hk
        generalize (diffL a b k).length = n at cl hl hl1 HE2 hl2
        generalize pName k = nm at cn cl
        have hgd : ∀ W, Below wr.heap.size wr W → W.cell? ⟨b0, o0 + n, none⟩ = some (.string ⟨nm.toArray⟩) ∧ W.cell? ⟨g1, k, none⟩ = some (.string ⟨nm.toArray⟩) := fun W g => ⟨(g.cell (p := ⟨b0, o0 + n, none⟩) (Nat.lt_of_lt_of_le hb0 HW.out.size)).trans cl, (g.cell (p := ⟨g1, k, none⟩) (Nat.lt_of_lt_of_le (at_lt HN4.out) HW.out.size)).trans cn⟩
        have HGd := hid hgd
        clear hgd
        go_upto_region 11 with fail
        refine wp_region_noPanic ?_
        refine wp_region_held_drew (S := (fun W => Below wr.heap.size wr W)) (by kernel_rfl) (Ev.bd1 (Ev.br _)) (fun hHeld => ?_)
        (refine takeW (i := 0) (d := 68) (v := ?_) rfl rfl (by kernel_rfl) (by kernel_rfl) (by kernel_rfl) (fun _ _ _ h => h) (by rfl) ?_ (by assumption) ?_)
        rotate_left
        · (intro W hSW; go_simp; (try with_reducible rfl))
        simp only [Act.put, List.setIfInBounds_toArray, List.set_cons_zero, List.set_cons_succ]
        (refine takeW (i := 1) (d := 69) (v := ?_) rfl rfl (by kernel_rfl) (by kernel_rfl) (by kernel_rfl) (fun _ _ _ h => h) (by rfl) ?_ (by assumption) ?_)
        rotate_left
        · (intro W hSW; go_simp; (try with_reducible rfl))
        simp only [Act.put, List.setIfInBounds_toArray, List.set_cons_zero, List.set_cons_succ]
        (refine takeW (i := 2) (d := 70) (v := ?_) rfl rfl (by kernel_rfl) (by kernel_rfl) (by kernel_rfl) (fun _ _ _ h => h) (by rfl) ?_ (by assumption) ?_)
        rotate_left
        · (intro W hSW; go_simp; (try with_reducible rfl))
        simp only [Act.put, List.setIfInBounds_toArray, List.set_cons_zero, List.set_cons_succ]
        (refine takeW (i := 3) (d := 71) (v := .bool false) rfl rfl (by kernel_rfl) (by kernel_rfl) (by kernel_rfl) (fun _ _ _ h => h) (by rfl) ?_ (by assumption) ?_)
        · (intro W hSW; go_simp; (try with_reducible rfl))
        simp only [Act.put, List.setIfInBounds_toArray, List.set_cons_zero, List.set_cons_succ]
        (refine takeW (i := 4) (d := 72) (v := .bool false) rfl rfl (by kernel_rfl) (by kernel_rfl) (by kernel_rfl) (fun _ _ _ h => h) (by rfl) ?_ (by assumption) ?_)
        · (intro W hSW; go_simp; (try with_reducible rfl))
        simp only [Act.put, List.setIfInBounds_toArray, List.set_cons_zero, List.set_cons_succ]
        (refine takeW (i := 5) (d := 73) (v := ?_) rfl rfl (by kernel_rfl) (by kernel_rfl) (by kernel_rfl) (fun _ _ _ h => h) (by rfl) ?_ (by assumption) ?_)
        rotate_left
        · (intro W hSW; go_simp; (try with_reducible rfl))
        simp only [Act.put, List.setIfInBounds_toArray, List.set_cons_zero, List.set_cons_succ]
        (refine takeW (i := 6) (d := 74) (v := ?_) rfl rfl (by kernel_rfl) (by kernel_rfl) (by kernel_rfl) (fun _ _ _ h => h) (by rfl) ?_ (by assumption) ?_)
        rotate_left
        · (intro W hSW; go_simp; (try with_reducible rfl))
        simp only [Act.put, List.setIfInBounds_toArray, List.set_cons_zero, List.set_cons_succ]
        (refine takeW (i := 7) (d := 75) (v := ?_) rfl rfl (by kernel_rfl) (by kernel_rfl) (by kernel_rfl) (fun _ _ _ h => h) (by rfl) ?_ (by assumption) ?_)
        rotate_left
        · (intro W hSW; go_simp; (try with_reducible rfl))
        simp only [Act.put, List.setIfInBounds_toArray, List.set_cons_zero, List.set_cons_succ]
        (refine takeW (i := 8) (d := 76) (v := ?_) rfl rfl (by kernel_rfl) (by kernel_rfl) (by kernel_rfl) (fun _ _ _ h => h) (by rfl) ?_ (by assumption) ?_)
        rotate_left
        · (intro W hSW; have hSW2 := HGd.out W hSW; go_simp; (try with_reducible rfl))
        simp only [Act.put, List.setIfInBounds_toArray, List.set_cons_zero, List.set_cons_succ]
        (refine takeW (i := 9) (d := 77) (v := ?_) rfl rfl (by kernel_rfl) (by kernel_rfl) (by kernel_rfl) (fun _ _ _ h => h) (by rfl) ?_ (by assumption) ?_)
        rotate_left
        · (intro W hSW; go_simp; (try with_reducible rfl))
        simp only [Act.put, List.setIfInBounds_toArray, List.set_cons_zero, List.set_cons_succ]
        (refine takeW (i := 10) (d := 78) (v := ?_) rfl rfl (by kernel_rfl) (by kernel_rfl) (by kernel_rfl) (fun _ _ _ h => h) (by rfl) ?_ (by assumption) ?_)
        rotate_left
        · (intro W hSW; go_simp; (try with_reducible rfl))
        simp only [Act.put, List.setIfInBounds_toArray, List.set_cons_zero, List.set_cons_succ]
        (refine takeW (i := 11) (d := 79) (v := ?_) rfl rfl (by kernel_rfl) (by kernel_rfl) (by kernel_rfl) (fun _ _ _ h => h) (by rfl) ?_ (by assumption) ?_)
        rotate_left
        · (intro W hSW; go_simp; (try with_reducible rfl))
        simp only [Act.put, List.setIfInBounds_toArray, List.set_cons_zero, List.set_cons_succ]
        (refine takeW (i := 12) (d := 80) (v := ?_) rfl rfl (by kernel_rfl) (by kernel_rfl) (by kernel_rfl) (fun _ _ _ h => h) (by rfl) ?_ (by assumption) ?_)
        rotate_left
        · (intro W hSW; have hSW2 := HGd.out W hSW; go_simp; (try with_reducible rfl))
        simp only [Act.put, List.setIfInBounds_toArray, List.set_cons_zero, List.set_cons_succ]
        (refine takeW (i := 13) (d := 81) (v := .bool false) rfl rfl (by kernel_rfl) (by kernel_rfl) (by kernel_rfl) (fun _ _ _ h => h) (by rfl) ?_ (by assumption) ?_)
        · (intro W hSW; go_simp; (try with_reducible rfl))
        simp only [Act.put, List.setIfInBounds_toArray, List.set_cons_zero, List.set_cons_succ]
        (refine takeW (i := 14) (d := 82) (v := .bool false) rfl rfl (by kernel_rfl) (by kernel_rfl) (by kernel_rfl) (fun _ _ _ h => h) (by rfl) ?_ (by assumption) ?_)
        · (intro W hSW; go_simp; (try with_reducible rfl))
        simp only [Act.put, List.setIfInBounds_toArray, List.set_cons_zero, List.set_cons_succ]
        refine wpAnyH_done (by kernel_rfl) ?_ _
        refine NoPanic.normal ?_
        have HW2 := hid (Ev.bt HW.out (Ev.bd1 (Ev.br wr)))
        clear hHeld HGd cl cn
        go_wp2_with fail
        go_roundw
        case rel => first | exact ⟨k + 1, hlt, by go_num, by rw [HE2.out], HW2.out⟩ | ((repeat apply Exists.intro); exact ⟨⟨k + 1, hlt, by go_num, by rw [HE2.out], HW2.out⟩, rfl⟩)
        case measure => simp [intOf]; omega
    · have hk7 : k = 7 := by omega
      subst hk7
      have HA5 := hid (HA4.out.below HW.out)
      have HZ5 := hid (HZ4.out.below HW.out)
      have HB5 := hid (Ev.bt HB4.out HW.out)
      clear HA4 HZ4 HB4 HG4 HN4 HCl HDf
      by_cases hab : a = b
      · subst hab
        have hL0 : L = 0 := by rw [← HLn.out, diff_self]; rfl
        have HLi := HLn.out
        rw [hL0] at HLi
        clear HLn
        subst hL0
        generalize (diffL a a 7).length = n at HLi ⊢
        subst HLi
        have hq : ∀ W : World, (binOp .eql 33 (.agg (stC a).toArray) (.agg (stC a).toArray)).run Try.prog W = .ok (.bool true) W := fun W => by
          have := eqS a a W
          rw [decide_eq_true rfl] at this
          exact this
        cases hr : rightS a
        · rw [pack_no hr] at HPa HPb
          clear hr
          go_wp2_with (first
            | ((with_reducible show wpList _ _ _ _ _ _); refine wpList_load_at rfl 33 _ rfl w.heap.size 0 rfl 33 _ (stC a) (0, 0) _ HA5.out Try.underlying33 rfl (by kernel_rfl) (stC_slf a) ?_)
            | (go_at_call 7; ((with_reducible refine (HPa _).mono ?_); rintro e w6 ⟨rfl, g6⟩; have HB6 := hid (Ev.bt HB5.out g6); have HA6 := hid (HA5.out.below g6); have HZ6 := hid (HZ5.out.below g6)))
            | ((with_reducible show wpList _ _ _ _ _ _); refine wpList_load_at rfl 33 _ rfl (w.heap.size + 1) 0 rfl 33 _ (stC a) (0, 0) _ HZ6.out Try.underlying33 rfl (by kernel_rfl) (stC_slf a) ?_)
            | (go_at_call 7; ((with_reducible refine (HPb _).mono ?_); rintro e w7 ⟨rfl, g7⟩; have HB7 := hid (Ev.bt HB6.out g7); have HA7 := hid (HA6.out.below g7); have HZ7 := hid (HZ6.out.below g7)))
            | ((with_reducible show wpList _ _ _ _ _ _); refine wpList_load_atf (by rfl) 33 _ rfl w.heap.size 0 rfl 33 _ (stC a) (0, 0) _ HA7.out Try.underlying33 rfl (by kernel_rfl) (stC_slf a) ?_)
            | ((with_reducible show wpList _ _ _ _ _ _); refine wpList_load_atf (by rfl) 33 _ rfl (w.heap.size + 1) 0 rfl 33 _ (stC a) (0, 0) _ HZ7.out Try.underlying33 rfl (by kernel_rfl) (stC_slf a) ?_))
          go_ret
          exact ⟨rfl, HB7.out⟩
        · rw [pack_yes hr] at HPa HPb
          generalize bytesS a = τ at HPa HPb
          clear hr
          go_wp2_with (first
            | ((with_reducible show wpList _ _ _ _ _ _); refine wpList_load_at rfl 33 _ rfl w.heap.size 0 rfl 33 _ (stC a) (0, 0) _ HA5.out Try.underlying33 rfl (by kernel_rfl) (stC_slf a) ?_)
            | (go_at_call 7; ((with_reducible refine (HPa _).mono ?_); rintro e w6 ⟨rfl, g6⟩; have HB6 := hid (Ev.bt HB5.out g6); have HA6 := hid (HA5.out.below g6); have HZ6 := hid (HZ5.out.below g6)))
            | ((with_reducible show wpList _ _ _ _ _ _); refine wpList_load_at rfl 33 _ rfl (w.heap.size + 1) 0 rfl 33 _ (stC a) (0, 0) _ HZ6.out Try.underlying33 rfl (by kernel_rfl) (stC_slf a) ?_)
            | (go_at_call 7; ((with_reducible refine (HPb _).mono ?_); rintro e w7 ⟨rfl, g7⟩; have HB7 := hid (Ev.bt HB6.out g7); have HA7 := hid (HA6.out.below g7); have HZ7 := hid (HZ6.out.below g7)))
            | ((with_reducible show wpList _ _ _ _ _ _); refine wpList_load_atf (by rfl) 33 _ rfl w.heap.size 0 rfl 33 _ (stC a) (0, 0) _ HA7.out Try.underlying33 rfl (by kernel_rfl) (stC_slf a) ?_)
            | ((with_reducible show wpList _ _ _ _ _ _); refine wpList_load_atf (by rfl) 33 _ rfl (w.heap.size + 1) 0 rfl 33 _ (stC a) (0, 0) _ HZ7.out Try.underlying33 rfl (by kernel_rfl) (stC_slf a) ?_))
          go_ret
          exact ⟨rfl, HB7.out⟩
      · have hL0 : L ≠ 0 := fun h => hab (diff_nil a b (List.length_eq_zero_iff.1 (HLn.out.trans h)))
        have HLi := HLn.out
        clear HLn
        generalize (diffL a b 7).length = n at HLi ⊢
        subst HLi
        have hn0 : ((n : Int) == 0) = false := by simp; omega
        have hq : ∀ W : World, (binOp .eql 33 (.agg (stC a).toArray) (.agg (stC b).toArray)).run Try.prog W = .ok (.bool false) W := fun W => by
          have := eqS a b W
          rw [decide_eq_false hab] at this
          exact this
        cases hr : rightS a
        · rw [pack_no hr] at HPa
          cases hr2 : rightS b
          · rw [pack_no hr2] at HPb
            clear hr hr2 hL0
            go_wp2_with (first
              | ((with_reducible show wpList _ _ _ _ _ _); refine wpList_load_at rfl 33 _ rfl w.heap.size 0 rfl 33 _ (stC a) (0, 0) _ HA5.out Try.underlying33 rfl (by kernel_rfl) (stC_slf a) ?_)
              | (go_at_call 7; ((with_reducible refine (HPa _).mono ?_); rintro e w6 ⟨rfl, g6⟩; have HB6 := hid (Ev.bt HB5.out g6); have HA6 := hid (HA5.out.below g6); have HZ6 := hid (HZ5.out.below g6)))
              | ((with_reducible show wpList _ _ _ _ _ _); refine wpList_load_at rfl 33 _ rfl (w.heap.size + 1) 0 rfl 33 _ (stC b) (0, 0) _ HZ6.out Try.underlying33 rfl (by kernel_rfl) (stC_slf b) ?_)
              | (go_at_call 7; ((with_reducible refine (HPb _).mono ?_); rintro e w7 ⟨rfl, g7⟩; have HB7 := hid (Ev.bt HB6.out g7); have HA7 := hid (HA6.out.below g7); have HZ7 := hid (HZ6.out.below g7)))
              | ((with_reducible show wpList _ _ _ _ _ _); refine wpList_load_atf (by rfl) 33 _ rfl w.heap.size 0 rfl 33 _ (stC a) (0, 0) _ HA7.out Try.underlying33 rfl (by kernel_rfl) (stC_slf a) ?_)
              | ((with_reducible show wpList _ _ _ _ _ _); refine wpList_load_atf (by rfl) 33 _ rfl (w.heap.size + 1) 0 rfl 33 _ (stC b) (0, 0) _ HZ7.out Try.underlying33 rfl (by kernel_rfl) (stC_slf b) ?_))
            go_ret
            exact ⟨rfl, HB7.out⟩
          · rw [pack_yes hr2] at HPb
            generalize bytesS b = τb at HPb
            clear hr hr2 hL0
            go_wp2_with (first
              | ((with_reducible show wpList _ _ _ _ _ _); refine wpList_load_at rfl 33 _ rfl w.heap.size 0 rfl 33 _ (stC a) (0, 0) _ HA5.out Try.underlying33 rfl (by kernel_rfl) (stC_slf a) ?_)
              | (go_at_call 7; ((with_reducible refine (HPa _).mono ?_); rintro e w6 ⟨rfl, g6⟩; have HB6 := hid (Ev.bt HB5.out g6); have HA6 := hid (HA5.out.below g6); have HZ6 := hid (HZ5.out.below g6)))
              | ((with_reducible show wpList _ _ _ _ _ _); refine wpList_load_at rfl 33 _ rfl (w.heap.size + 1) 0 rfl 33 _ (stC b) (0, 0) _ HZ6.out Try.underlying33 rfl (by kernel_rfl) (stC_slf b) ?_)
              | (go_at_call 7; ((with_reducible refine (HPb _).mono ?_); rintro e w7 ⟨rfl, g7⟩; have HB7 := hid (Ev.bt HB6.out g7); have HA7 := hid (HA6.out.below g7); have HZ7 := hid (HZ6.out.below g7)))
              | ((with_reducible show wpList _ _ _ _ _ _); refine wpList_load_atf (by rfl) 33 _ rfl w.heap.size 0 rfl 33 _ (stC a) (0, 0) _ HA7.out Try.underlying33 rfl (by kernel_rfl) (stC_slf a) ?_)
              | ((with_reducible show wpList _ _ _ _ _ _); refine wpList_load_atf (by rfl) 33 _ rfl (w.heap.size + 1) 0 rfl 33 _ (stC b) (0, 0) _ HZ7.out Try.underlying33 rfl (by kernel_rfl) (stC_slf b) ?_))
            go_ret
            exact ⟨rfl, HB7.out⟩
        · rw [pack_yes hr] at HPa
          cases hr2 : rightS b
          · rw [pack_no hr2] at HPb
            generalize bytesS a = τa at HPa
            clear hr hr2 hL0
            go_wp2_with (first
              | ((with_reducible show wpList _ _ _ _ _ _); refine wpList_load_at rfl 33 _ rfl w.heap.size 0 rfl 33 _ (stC a) (0, 0) _ HA5.out Try.underlying33 rfl (by kernel_rfl) (stC_slf a) ?_)
              | (go_at_call 7; ((with_reducible refine (HPa _).mono ?_); rintro e w6 ⟨rfl, g6⟩; have HB6 := hid (Ev.bt HB5.out g6); have HA6 := hid (HA5.out.below g6); have HZ6 := hid (HZ5.out.below g6)))
              | ((with_reducible show wpList _ _ _ _ _ _); refine wpList_load_at rfl 33 _ rfl (w.heap.size + 1) 0 rfl 33 _ (stC b) (0, 0) _ HZ6.out Try.underlying33 rfl (by kernel_rfl) (stC_slf b) ?_)
              | (go_at_call 7; ((with_reducible refine (HPb _).mono ?_); rintro e w7 ⟨rfl, g7⟩; have HB7 := hid (Ev.bt HB6.out g7); have HA7 := hid (HA6.out.below g7); have HZ7 := hid (HZ6.out.below g7)))
              | ((with_reducible show wpList _ _ _ _ _ _); refine wpList_load_atf (by rfl) 33 _ rfl w.heap.size 0 rfl 33 _ (stC a) (0, 0) _ HA7.out Try.underlying33 rfl (by kernel_rfl) (stC_slf a) ?_)
              | ((with_reducible show wpList _ _ _ _ _ _); refine wpList_load_atf (by rfl) 33 _ rfl (w.heap.size + 1) 0 rfl 33 _ (stC b) (0, 0) _ HZ7.out Try.underlying33 rfl (by kernel_rfl) (stC_slf b) ?_))
            go_ret
            exact ⟨rfl, HB7.out⟩
          · rw [pack_yes hr2] at HPb
            have hne : bytesS a ≠ bytesS b := fun h => hab (bytes_inj (nn_state HTa.out hr) (nn_state HTb.out hr2) h)
            generalize bytesS a = τa at HPa hne
            generalize bytesS b = τb at HPb hne
            have hb : (τa == τb) = false := by simpa using hne
            clear hr hr2 hL0 hne
            go_wp2_with (first
              | ((with_reducible show wpList _ _ _ _ _ _); refine wpList_load_at rfl 33 _ rfl w.heap.size 0 rfl 33 _ (stC a) (0, 0) _ HA5.out Try.underlying33 rfl (by kernel_rfl) (stC_slf a) ?_)
              | (go_at_call 7; ((with_reducible refine (HPa _).mono ?_); rintro e w6 ⟨rfl, g6⟩; have HB6 := hid (Ev.bt HB5.out g6); have HA6 := hid (HA5.out.below g6); have HZ6 := hid (HZ5.out.below g6)))
              | ((with_reducible show wpList _ _ _ _ _ _); refine wpList_load_at rfl 33 _ rfl (w.heap.size + 1) 0 rfl 33 _ (stC b) (0, 0) _ HZ6.out Try.underlying33 rfl (by kernel_rfl) (stC_slf b) ?_)
              | (go_at_call 7; ((with_reducible refine (HPb _).mono ?_); rintro e w7 ⟨rfl, g7⟩; have HB7 := hid (Ev.bt HB6.out g7); have HA7 := hid (HA6.out.below g7); have HZ7 := hid (HZ6.out.below g7)))
              | ((with_reducible show wpList _ _ _ _ _ _); refine wpList_load_atf (by rfl) 33 _ rfl w.heap.size 0 rfl 33 _ (stC a) (0, 0) _ HA7.out Try.underlying33 rfl (by kernel_rfl) (stC_slf a) ?_)
              | ((with_reducible show wpList _ _ _ _ _ _); refine wpList_load_atf (by rfl) 33 _ rfl (w.heap.size + 1) 0 rfl 33 _ (stC b) (0, 0) _ HZ7.out Try.underlying33 rfl (by kernel_rfl) (stC_slf b) ?_))
            go_ret
            exact ⟨rfl, HB7.out⟩
end Go.Proofs.Ythbncbdnpeglfaa.Fz
