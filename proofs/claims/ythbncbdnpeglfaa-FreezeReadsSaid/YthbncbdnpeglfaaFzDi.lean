/- Sum and Differ (layer 13, freeze). -/
import Derived.Test.YthbncbdnpeglfaaFzCo
import Derived.Lib.BufSteps
namespace Go.Proofs.Ythbncbdnpeglfaa.Fz
open Go.RowKit
open Go.Proofs.Ythbncbdnpeglfaa.Ev (At)
open Go.Proofs.Ythbncbdnpeglfaa.Gm (hid Pl Bu St plC buC stC stV zeroP zeroB zeroS plS setP shS setS shC rightS wpList_load_at wpList_store_at takeW stC_sh0 neqB runP runBs)
open Go.Proofs.Ythbncbdnpeglfaa.Pk (numL rdN sgnN unsN num_pos)
set_option linter.unusedVariables false

/-- 'l = append(l, x)' where x has one cell, lists of one's own. -/
theorem app_one {P : Program} {ops : Array Oper} {rest : List Oper} {o : Oper} {a : Act} {Q : Exit → Act → World → Prop} (hgd : o.guard = none) (s x : Operand) (t : TypeId)
    (ho : o.op = .call { callee := .builtin .append, args := #[s, x], argTypes := #[t, t] })
    (B : Nat) (e : TypeId) (i : TypeInfo) (z : Value) (bytes : Nat) (ht : P.underlying t = some (.slice e)) (hi : P.info? e = some i) (hz : i.zero = some z) (hsize : i.size = 1) (hby : i.bytes = bytes) (hzs : z.cells.size = 1)
    (v : Value) (n : Nat) (xs : List Value) (hs : a.eval s = v) (W0 w0 : World) (u : Value) (hu1 : u.oneCell' = true) (hb : Lib.OwnBuf B e v n xs W0 w0)
    (hx : a.eval x = .slice (some ⟨w0.heap.size, 0, none⟩) 1 1) (hlen : n + 1 ≤ 1000000) (hbm : bytes ≤ 16)
    (h : ∀ v' w', Lib.OwnBuf B e v' (n + 1) (xs ++ [u]) W0 w' → (w0.alloc (.cells #[u] e)).grownBy w' v.ownBlock → wpList P ops Q rest (a.put o.dst v') w') : wpList P ops Q (o :: rest) a (w0.alloc (.cells #[u] e)) := by
  have hb' := hb.alloc (.cells #[u] e)
  have hm : (n + 1) * bytes ≤ (n + 1) * 16 := Nat.mul_le_mul (Nat.le_refl _) hbm
  refine wpList_append_ownF _ hgd s x t ho B e i z 1 bytes ht hi hz hsize hby hzs (by decide) v n xs hs hb'.1 ⟨w0.heap.size, 0, none⟩ 1 1 [u] hx rfl ?_ ?_ (by unfold maxLen; omega) (by omega) hb'.2.2 ?_
  · intro j y hj
    match j, hj with
    | 0, hj => simp at hj; subst hj; simp [Addr.add]
    | (j + 1), hj => simp at hj
  · intro y hy; simp at hy; subst hy; exact hu1
  · intro v' w' ho' hg _
    exact h v' w' (hb'.grown ho' hg) hg

theorem own_ne {w : World} {B : Nat} {e : TypeId} {k n : Nat} {v : Value} {xs : List Value} {g : Nat} {cs : Array Value} {T : TypeId} (h : w.ownsRowF B e k v n xs) (hg : At w g cs T) (hT : T ≠ e) : some g ≠ v.ownBlock := by
  rcases h.2 with ⟨rfl, _⟩ | ⟨g', cap, cur, fz, rfl, _, hh, _⟩
  · simp [Value.ownBlock]
  · intro e'
    have e2 : g = g' := by simpa [Value.ownBlock] using e'
    subst e2
    have := (show w.heap[g]? = some (.cells cs T (0, 0)) from hg).symm.trans hh
    simp at this
    exact hT this.2.1
theorem at_lt {w : World} {g : Nat} {cs : Array Value} {T : TypeId} (hg : At w g cs T) : g < w.heap.size := (Array.getElem?_eq_some_iff.1 (show w.heap[g]? = some _ from hg)).1
theorem at_grown {w w' : World} {g : Nat} {cs : Array Value} {T : TypeId} {row : Option Nat} (hg : At w g cs T) (h : w.grownBy w' row) (hne : some g ≠ row) : At w' g cs T := (h.block g (at_lt hg) hne).trans hg
theorem len_head (q : W) (h : Ty q.1) : (headW false q).2.length ≤ q.2.length + 240 := by
  have a := len_fr false q
  have b := len_di false (frW false q)
  have c := len_rl false (diW false (frW false q))
  have d := len_ps false (rlW false (diW false (frW false q))) (ty_rl (ty_di (ty_fr h))) 2
  unfold headW
  omega
theorem len_walk (q : W) (h : Ty q.1) : (walkW false q).2.length ≤ q.2.length + 601 := by
  have h1 := len_head q h
  have h0 := ty_head (k := false) h
  unfold walkW
  generalize headW false q = y at h1 h0
  have h2 := len_nb false y.2 (bitsN y.1)
  generalize nxB false y.2 (bitsN y.1) = z at h2
  have h3 := len_ss false z.1 (y.1, z.2) h0 6
  dsimp only at h3
  omega
theorem bytes_len {s : St} (hT : Ty s) (hr : rightS s = true) : (bytesS s).length ≤ 601 := by
  have h := len_walk (s, []) hT
  rw [written (nn_state hT hr)] at h
  simpa using h

theorem str_size (τ : List UInt8) : (⟨τ.toArray⟩ : ByteArray).size = τ.length := by
  show τ.toArray.size = _
  simp
set_option maxRecDepth 100000 in
set_option maxHeartbeats 4000000 in
theorem sum_c (s : St) (w : World) (hT : Ty s) :
    Calls Try.prog 8 #[.agg (stC s).toArray] w fun e w' => e = .returned (sumV s) ∧ Below w.heap.size w w' := by
  have HA := hid (At.new w (stC s).toArray 33)
  have HB := hid (Ev.bal (Ev.br w) (.cells (stC s).toArray 33))
  have HT := hid hT
  generalize hC : stC s = cs at HA HB
  go_enter Try.func8, Try.ntmps8
  go_upto_region 1 with fail
  subst hC
  generalize World.alloc w _ = w0 at HA HB ⊢
  cases hr : rightS s
  · have HS : Hid (sumV s = .tuple #[.int .u32 0, .int .i64 1]) := hid (if_neg (by rw [hr]; decide))
    have HP : Hid (packV s = .tuple #[.string ⟨#[]⟩, .int .i64 1]) := hid (if_neg (by rw [hr]; decide))
    go_wp2_with (first
      | (refine wpList_load_at rfl 33 _ rfl w.heap.size 0 rfl 33 _ (stC s) (0, 0) _ HA.out Try.underlying33 rfl (by kernel_rfl) (stC_slf s) ?_)
      | (go_at_call 7; ((with_reducible refine (pack_c s _ HT.out).mono ?_); rintro e w1 ⟨rfl, g1⟩; rw [HP.out]; have HB1 := hid (Ev.bt HB.out g1))))
    go_ret2
    exact ⟨by rw [HS.out]; rfl, HB1.out⟩
  · have HS : Hid (sumV s = .tuple #[.int .u32 (Sm.ofI (bytesS s)), .int .i64 0]) := hid (if_pos hr)
    have HP : Hid (packV s = .tuple #[.string ⟨(bytesS s).toArray⟩, .int .i64 0]) := hid (if_pos hr)
    have HL := hid (bytes_len HT.out hr)
    generalize bytesS s = τ at HS HP HL
    have HOf : ∀ W, Calls Try.prog 19 #[.string ⟨τ.toArray⟩] W (fun e w' => e = .returned (.int .u32 (Sm.ofI τ)) ∧ W = w') := fun W => Sm.of_c ⟨τ.toArray⟩ W (by have := HL.out; rw [str_size]; unfold maxLen; omega)
    go_wp2_with (first
      | (refine wpList_load_at rfl 33 _ rfl w.heap.size 0 rfl 33 _ (stC s) (0, 0) _ HA.out Try.underlying33 rfl (by kernel_rfl) (stC_slf s) ?_)
      | (go_at_call 7; ((with_reducible refine (pack_c s _ HT.out).mono ?_); rintro e w1 ⟨rfl, g1⟩; rw [HP.out]; have HB1 := hid (Ev.bt HB.out g1)))
      | (go_at_call 19; ((with_reducible refine (HOf _).mono ?_); rintro e w2 ⟨rfl, rfl⟩)))
    go_ret2
    exact ⟨by rw [HS.out]; rfl, HB1.out⟩

theorem stC_p0 (s : St) : ∀ j v, (plC s.p0)[j]? = some v → ((stC s).toArray)[4 + j]? = some v := by
  intro j v hv
  have hj : j < 10 := (List.getElem?_eq_some_iff.1 hv).1
  have hh : j = 0 ∨ j = 1 ∨ j = 2 ∨ j = 3 ∨ j = 4 ∨ j = 5 ∨ j = 6 ∨ j = 7 ∨ j = 8 ∨ j = 9 := by omega
  rcases hh with rfl | rfl | rfl | rfl | rfl | rfl | rfl | rfl | rfl | rfl <;> exact hv
theorem stC_p1 (s : St) : ∀ j v, (plC s.p1)[j]? = some v → ((stC s).toArray)[14 + j]? = some v := by
  intro j v hv
  have hj : j < 10 := (List.getElem?_eq_some_iff.1 hv).1
  have hh : j = 0 ∨ j = 1 ∨ j = 2 ∨ j = 3 ∨ j = 4 ∨ j = 5 ∨ j = 6 ∨ j = 7 ∨ j = 8 ∨ j = 9 := by omega
  rcases hh with rfl | rfl | rfl | rfl | rfl | rfl | rfl | rfl | rfl | rfl <;> exact hv
def shotsT (s : St) : Bu × Bu × Bu × Bu × Bu × Bu := (s.s0, s.s1, s.s2, s.s3, s.s4, s.s5)
theorem guardP : Try.prog.eqGuardType Try.prog.depth 27 = false := by kernel_rfl
theorem guardBs : Try.prog.eqGuardType Try.prog.depth 31 = false := by kernel_rfl
theorem neqP (x y : Pl) (w : World) : (binOp .neq 27 (Gm.plV x) (Gm.plV y)).run Try.prog w = .ok (.bool (!decide (x = y))) w := by
  rw [run_neq_struct, show (10000 : Nat) = 9997 + 1 + 1 + 1 from rfl, runP]; rfl
set_option maxRecDepth 100000 in
theorem neqBs (a b : St) (w : World) : (binOp .neq 31 (.agg (shC a).toArray) (.agg (shC b).toArray)).run Try.prog w = .ok (.bool (!decide (shotsT a = shotsT b))) w := by
  have h := runBs 9996 a.s0 a.s1 a.s2 a.s3 a.s4 a.s5 b.s0 b.s1 b.s2 b.s3 b.s4 b.s5 w
  have e : (10000 : Nat) = 9996 + 1 + 1 + 1 + 1 := rfl
  have ea : decide (shotsT a = shotsT b) = decide (a.s0 = b.s0 ∧ a.s1 = b.s1 ∧ a.s2 = b.s2 ∧ a.s3 = b.s3 ∧ a.s4 = b.s4 ∧ a.s5 = b.s5) := by
    unfold shotsT
    simp only [Prod.mk.injEq]
  rw [run_neq_struct, e]
  unfold shC
  rw [h, ea]; rfl
theorem exec_neqP {o : Oper} {ev : Operand → Value} (w : World) (x y : Operand) (t2 : TypeId) (ho : o.op = .binOp .neq 27 x y t2) (s1 s2 : Pl) (hx : ev x = .agg (plC s1).toArray) (hy : ev y = .agg (plC s2).toArray) :
    (execOp ev o).run Try.prog w = .ok (.value (.bool (!decide (s1 = s2)))) w := by
  have hg := run_eqGuard_agg (P := Try.prog) (w := w) .neq 27 x y (plC s1).toArray (plC s2).toArray guardP
  have hb := neqP s1 s2 w
  unfold execOp
  simp only [ho, hx, hy, Sem.run_bind, Sem.run_pure, Result.andThen_ok, hg, hb]
set_option maxRecDepth 100000 in
theorem exec_neqBs {o : Oper} {ev : Operand → Value} (w : World) (x y : Operand) (t2 : TypeId) (ho : o.op = .binOp .neq 31 x y t2) (s1 s2 : St) (hx : ev x = .agg (shC s1).toArray) (hy : ev y = .agg (shC s2).toArray) :
    (execOp ev o).run Try.prog w = .ok (.value (.bool (!decide (shotsT s1 = shotsT s2)))) w := by
  have hg := run_eqGuard_agg (P := Try.prog) (w := w) .neq 31 x y (shC s1).toArray (shC s2).toArray guardBs
  have hb := neqBs s1 s2 w
  unfold execOp
  simp only [ho, hx, hy, Sem.run_bind, Sem.run_pure, Result.andThen_ok, hg, hb]

/-- the parts' names, in what two states differ, and the names of those. -/
def pName : Nat → List UInt8
  | 0 => [102, 114, 97, 109, 101]
  | 1 => [100, 105, 99, 101]
  | 2 => [114, 111, 117, 110, 100]
  | 3 => [108, 101, 102, 116]
  | 4 => [111, 110, 101]
  | 5 => [116, 119, 111]
  | _ => [115, 104, 111, 116, 115]
def pDif (a b : St) : Nat → Bool
  | 0 => a.fr != b.fr
  | 1 => a.di != b.di
  | 2 => a.rd != b.rd
  | 3 => a.lf != b.lf
  | 4 => !decide (a.p0 = b.p0)
  | 5 => !decide (a.p1 = b.p1)
  | _ => !decide (shotsT a = shotsT b)
def diffL (a b : St) : Nat → List (List UInt8)
  | 0 => []
  | t + 1 => if pDif a b t then diffL a b t ++ [pName t] else diffL a b t
def strsV (l : List (List UInt8)) : List Value := l.map fun x => .string ⟨x.toArray⟩
theorem info_str : (Try.prog.info? 9).map (fun i => (i.zero, i.size, i.bytes)) = some (some (.string ⟨#[]⟩), 1, 16) := by kernel_rfl
theorem strsV_snoc (l : List (List UInt8)) (x : List UInt8) : strsV (l ++ [x]) = strsV l ++ [.string ⟨x.toArray⟩] := by simp [strsV]
theorem diff_len (a b : St) : ∀ t, (diffL a b t).length ≤ t
  | 0 => Nat.le_refl _
  | t + 1 => by
    have h := diff_len a b t
    unfold diffL
    split
    · simp; omega
    · omega
def partsC (a b : St) : Array Value := #[.string ⟨#[102, 114, 97, 109, 101]⟩, .bool (a.fr != b.fr), .string ⟨#[100, 105, 99, 101]⟩, .bool (a.di != b.di), .string ⟨#[114, 111, 117, 110, 100]⟩, .bool (a.rd != b.rd), .string ⟨#[108, 101, 102, 116]⟩, .bool (a.lf != b.lf), .string ⟨#[111, 110, 101]⟩, .bool (!decide (a.p0 = b.p0)), .string ⟨#[116, 119, 111]⟩, .bool (!decide (a.p1 = b.p1)), .string ⟨#[115, 104, 111, 116, 115]⟩, .bool (!decide (shotsT a = shotsT b))]
theorem parts_at (a b : St) (k : Nat) (hk : k < 7) : (partsC a b)[k * 2]? = some (.string ⟨(pName k).toArray⟩) ∧ (partsC a b)[k * 2 + 1]? = some (.bool (pDif a b k)) := by
  have hh : k = 0 ∨ k = 1 ∨ k = 2 ∨ k = 3 ∨ k = 4 ∨ k = 5 ∨ k = 6 := by omega
  rcases hh with rfl | rfl | rfl | rfl | rfl | rfl | rfl <;> exact ⟨rfl, rfl⟩

set_option maxRecDepth 100000 in
set_option maxHeartbeats 8000000 in
theorem differ_c (a b : St) (w : World) :
    Calls Try.prog 14 #[.agg (stC a).toArray, .agg (stC b).toArray] w fun e w' => ∃ v, e = .returned v ∧ Lib.OwnBuf w.heap.size 9 v (diffL a b 7).length (strsV (diffL a b 7)) w w' := by
  have HA := hid ((At.new w (stC a).toArray 33).more (.cells (stC b).toArray 33))
  have HZ := hid (At.new (w.alloc (.cells (stC a).toArray 33)) (stC b).toArray 33)
  have HB := hid (Ev.bal (Ev.bal (Ev.br w) (.cells (stC a).toArray 33)) (.cells (stC b).toArray 33))
  generalize hC : stC a = ca at HA HZ HB
  generalize hD : stC b = cb at HA HZ HB
  go_enter Try.func14, Try.ntmps14
  go_upto_region 2 with fail
  subst hC
  subst hD
  generalize hw : World.alloc (World.alloc w _) _ = w0
  have HA0 : Hid (At w0 w.heap.size (stC a).toArray 33) := hid (by rw [← hw]; exact HA.out)
  have HZ0 : Hid (At w0 (w.heap.size + 1) (stC b).toArray 33) := hid (by rw [← hw]; have := HZ.out; rw [show (w.alloc (.cells (stC a).toArray 33)).heap.size = w.heap.size + 1 by simp] at this; exact this)
  have HB0 : Hid (Below w.heap.size w w0) := hid (by rw [← hw]; exact HB.out)
  clear hw HA HZ HB
  refine wp_region_noPanic ?_
  refine wp_region_held_drew (S := (fun W => At W w.heap.size (stC a).toArray 33 ∧ At W (w.heap.size + 1) (stC b).toArray 33)) (by kernel_rfl) ⟨HA0.out.drew, HZ0.out.drew⟩ (fun hHeld => ?_)
  (refine takeW (i := 0) (d := 8) (v := ?_) rfl rfl (by kernel_rfl) (by kernel_rfl) (by kernel_rfl) (fun _ _ _ h => h) (by rfl) ?_ (by assumption) ?_)
  rotate_left
  · (intro W hSW; go_simp; (try with_reducible rfl))
  simp only [Act.put, List.setIfInBounds_toArray, List.set_cons_zero, List.set_cons_succ]
  (refine takeW (i := 1) (d := 9) (v := ?_) rfl rfl (by kernel_rfl) (by kernel_rfl) (by kernel_rfl) (fun _ _ _ h => h) (by rfl) ?_ (by assumption) ?_)
  rotate_left
  · (intro W hSW; obtain ⟨a0, a1, a2, a3⟩ := Gm.at_st hSW.1; obtain ⟨b0, b1, b2, b3⟩ := Gm.at_st hSW.2; go_simp; (try with_reducible rfl))
  simp only [Act.put, List.setIfInBounds_toArray, List.set_cons_zero, List.set_cons_succ]
  (refine takeW (i := 2) (d := 10) (v := ?_) rfl rfl (by kernel_rfl) (by kernel_rfl) (by kernel_rfl) (fun _ _ _ h => h) (by rfl) ?_ (by assumption) ?_)
  rotate_left
  · (intro W hSW; go_simp; (try with_reducible rfl))
  simp only [Act.put, List.setIfInBounds_toArray, List.set_cons_zero, List.set_cons_succ]
  (refine takeW (i := 3) (d := 11) (v := ?_) rfl rfl (by kernel_rfl) (by kernel_rfl) (by kernel_rfl) (fun _ _ _ h => h) (by rfl) ?_ (by assumption) ?_)
  rotate_left
  · (intro W hSW; obtain ⟨a0, a1, a2, a3⟩ := Gm.at_st hSW.1; obtain ⟨b0, b1, b2, b3⟩ := Gm.at_st hSW.2; go_simp; (try with_reducible rfl))
  simp only [Act.put, List.setIfInBounds_toArray, List.set_cons_zero, List.set_cons_succ]
  (refine takeW (i := 4) (d := 12) (v := ?_) rfl rfl (by kernel_rfl) (by kernel_rfl) (by kernel_rfl) (fun _ _ _ h => h) (by rfl) ?_ (by assumption) ?_)
  rotate_left
  · (intro W hSW; go_simp; (try with_reducible rfl))
  simp only [Act.put, List.setIfInBounds_toArray, List.set_cons_zero, List.set_cons_succ]
  (refine takeW (i := 5) (d := 13) (v := ?_) rfl rfl (by kernel_rfl) (by kernel_rfl) (by kernel_rfl) (fun _ _ _ h => h) (by rfl) ?_ (by assumption) ?_)
  rotate_left
  · (intro W hSW; go_simp; (try with_reducible rfl))
  simp only [Act.put, List.setIfInBounds_toArray, List.set_cons_zero, List.set_cons_succ]
  (refine takeW (i := 6) (d := 14) (v := ?_) rfl rfl (by kernel_rfl) (by kernel_rfl) (by kernel_rfl) (fun _ _ _ h => h) (by rfl) ?_ (by assumption) ?_)
  rotate_left
  · (intro W hSW; go_simp; (try with_reducible rfl))
  simp only [Act.put, List.setIfInBounds_toArray, List.set_cons_zero, List.set_cons_succ]
  (refine takeW (i := 7) (d := 15) (v := ?_) rfl rfl (by kernel_rfl) (by kernel_rfl) (by kernel_rfl) (fun _ _ _ h => h) (by rfl) ?_ (by assumption) ?_)
  rotate_left
  · (intro W hSW; obtain ⟨a0, a1, a2, a3⟩ := Gm.at_st hSW.1; obtain ⟨b0, b1, b2, b3⟩ := Gm.at_st hSW.2; go_simp; (try with_reducible rfl))
  simp only [Act.put, List.setIfInBounds_toArray, List.set_cons_zero, List.set_cons_succ]
  (refine takeW (i := 8) (d := 16) (v := ?_) rfl rfl (by kernel_rfl) (by kernel_rfl) (by kernel_rfl) (fun _ _ _ h => h) (by rfl) ?_ (by assumption) ?_)
  rotate_left
  · (intro W hSW; go_simp; (try with_reducible rfl))
  simp only [Act.put, List.setIfInBounds_toArray, List.set_cons_zero, List.set_cons_succ]
  (refine takeW (i := 9) (d := 17) (v := ?_) rfl rfl (by kernel_rfl) (by kernel_rfl) (by kernel_rfl) (fun _ _ _ h => h) (by rfl) ?_ (by assumption) ?_)
  rotate_left
  · (intro W hSW; obtain ⟨a0, a1, a2, a3⟩ := Gm.at_st hSW.1; obtain ⟨b0, b1, b2, b3⟩ := Gm.at_st hSW.2; go_simp; (try with_reducible rfl))
  simp only [Act.put, List.setIfInBounds_toArray, List.set_cons_zero, List.set_cons_succ]
  (refine takeW (i := 10) (d := 18) (v := ?_) rfl rfl (by kernel_rfl) (by kernel_rfl) (by kernel_rfl) (fun _ _ _ h => h) (by rfl) ?_ (by assumption) ?_)
  rotate_left
  · (intro W hSW; go_simp; (try with_reducible rfl))
  simp only [Act.put, List.setIfInBounds_toArray, List.set_cons_zero, List.set_cons_succ]
  (refine takeW (i := 11) (d := 19) (v := ?_) rfl rfl (by kernel_rfl) (by kernel_rfl) (by kernel_rfl) (fun _ _ _ h => h) (by rfl) ?_ (by assumption) ?_)
  rotate_left
  · (intro W hSW; go_simp; (try with_reducible rfl))
  simp only [Act.put, List.setIfInBounds_toArray, List.set_cons_zero, List.set_cons_succ]
  (refine takeW (i := 12) (d := 20) (v := ?_) rfl rfl (by kernel_rfl) (by kernel_rfl) (by kernel_rfl) (fun _ _ _ h => h) (by rfl) ?_ (by assumption) ?_)
  rotate_left
  · (intro W hSW; go_simp; (try with_reducible rfl))
  simp only [Act.put, List.setIfInBounds_toArray, List.set_cons_zero, List.set_cons_succ]
  (refine takeW (i := 13) (d := 21) (v := ?_) rfl rfl (by kernel_rfl) (by kernel_rfl) (by kernel_rfl) (fun _ _ _ h => h) (by rfl) ?_ (by assumption) ?_)
  rotate_left
  · (intro W hSW; obtain ⟨a0, a1, a2, a3⟩ := Gm.at_st hSW.1; obtain ⟨b0, b1, b2, b3⟩ := Gm.at_st hSW.2; go_simp; (try with_reducible rfl))
  simp only [Act.put, List.setIfInBounds_toArray, List.set_cons_zero, List.set_cons_succ]
  (refine takeW (i := 14) (d := 22) (v := ?_) rfl rfl (by kernel_rfl) (by kernel_rfl) (by kernel_rfl) (fun _ _ _ h => h) (by rfl) ?_ (by assumption) ?_)
  rotate_left
  · (intro W hSW; go_simp; (try with_reducible rfl))
  simp only [Act.put, List.setIfInBounds_toArray, List.set_cons_zero, List.set_cons_succ]
  (refine takeW (i := 15) (d := 23) (v := ?_) rfl rfl (by kernel_rfl) (by kernel_rfl) (by kernel_rfl) (fun _ _ _ h => h) (by rfl) ?_ (by assumption) ?_)
  rotate_left
  · (intro W hSW; obtain ⟨a0, a1, a2, a3⟩ := Gm.at_st hSW.1; obtain ⟨b0, b1, b2, b3⟩ := Gm.at_st hSW.2; go_simp; (try with_reducible rfl))
  simp only [Act.put, List.setIfInBounds_toArray, List.set_cons_zero, List.set_cons_succ]
  (refine takeW (i := 16) (d := 24) (v := ?_) rfl rfl (by kernel_rfl) (by kernel_rfl) (by kernel_rfl) (fun _ _ _ h => h) (by rfl) ?_ (by assumption) ?_)
  rotate_left
  · (intro W hSW; go_simp; (try with_reducible rfl))
  simp only [Act.put, List.setIfInBounds_toArray, List.set_cons_zero, List.set_cons_succ]
  (refine takeW (i := 17) (d := 25) (v := ?_) rfl rfl (by kernel_rfl) (by kernel_rfl) (by kernel_rfl) (fun _ _ _ h => h) (by rfl) ?_ (by assumption) ?_)
  rotate_left
  · (intro W hSW; go_simp; (try with_reducible rfl))
  simp only [Act.put, List.setIfInBounds_toArray, List.set_cons_zero, List.set_cons_succ]
  (refine takeW (i := 18) (d := 26) (v := ?_) rfl rfl (by kernel_rfl) (by kernel_rfl) (by kernel_rfl) (fun _ _ _ h => h) (by rfl) ?_ (by assumption) ?_)
  rotate_left
  · (intro W hSW; go_simp; (try with_reducible rfl))
  simp only [Act.put, List.setIfInBounds_toArray, List.set_cons_zero, List.set_cons_succ]
  (refine takeW (i := 19) (d := 27) (v := ?_) rfl rfl (by kernel_rfl) (by kernel_rfl) (by kernel_rfl) (fun _ _ _ h => h) (by rfl) ?_ (by assumption) ?_)
  rotate_left
  · (intro W hSW; obtain ⟨a0, a1, a2, a3⟩ := Gm.at_st hSW.1; obtain ⟨b0, b1, b2, b3⟩ := Gm.at_st hSW.2; go_simp; (try with_reducible rfl))
  simp only [Act.put, List.setIfInBounds_toArray, List.set_cons_zero, List.set_cons_succ]
  (refine takeW (i := 20) (d := 28) (v := ?_) rfl rfl (by kernel_rfl) (by kernel_rfl) (by kernel_rfl) (fun _ _ _ h => h) (by rfl) ?_ (by assumption) ?_)
  rotate_left
  · (intro W hSW; go_simp; (try with_reducible rfl))
  simp only [Act.put, List.setIfInBounds_toArray, List.set_cons_zero, List.set_cons_succ]
  (refine takeW (i := 21) (d := 29) (v := ?_) rfl rfl (by kernel_rfl) (by kernel_rfl) (by kernel_rfl) (fun _ _ _ h => h) (by rfl) ?_ (by assumption) ?_)
  rotate_left
  · (intro W hSW; obtain ⟨a0, a1, a2, a3⟩ := Gm.at_st hSW.1; obtain ⟨b0, b1, b2, b3⟩ := Gm.at_st hSW.2; go_simp; (try with_reducible rfl))
  simp only [Act.put, List.setIfInBounds_toArray, List.set_cons_zero, List.set_cons_succ]
  (refine takeW (i := 22) (d := 30) (v := ?_) rfl rfl (by kernel_rfl) (by kernel_rfl) (by kernel_rfl) (fun _ _ _ h => h) (by rfl) ?_ (by assumption) ?_)
  rotate_left
  · (intro W hSW; go_simp; (try with_reducible rfl))
  simp only [Act.put, List.setIfInBounds_toArray, List.set_cons_zero, List.set_cons_succ]
  (refine takeW (i := 23) (d := 31) (v := ?_) rfl rfl (by kernel_rfl) (by kernel_rfl) (by kernel_rfl) (fun _ _ _ h => h) (by rfl) ?_ (by assumption) ?_)
  rotate_left
  · (intro W hSW; go_simp; (try with_reducible rfl))
  simp only [Act.put, List.setIfInBounds_toArray, List.set_cons_zero, List.set_cons_succ]
  (refine takeW (i := 24) (d := 32) (v := ?_) rfl rfl (by kernel_rfl) (by kernel_rfl) (by kernel_rfl) (fun _ _ _ h => h) (by rfl) ?_ (by assumption) ?_)
  rotate_left
  · (intro W hSW; go_simp; (try with_reducible rfl))
  simp only [Act.put, List.setIfInBounds_toArray, List.set_cons_zero, List.set_cons_succ]
  (refine takeW (i := 25) (d := 33) (v := ?_) rfl rfl (by kernel_rfl) (by kernel_rfl) (by kernel_rfl) (fun _ _ _ h => h) (by rfl) ?_ (by assumption) ?_)
  rotate_left
  · (intro W hSW; go_simp; (try with_reducible rfl))
  simp only [Act.put, List.setIfInBounds_toArray, List.set_cons_zero, List.set_cons_succ]
  (refine takeW (i := 26) (d := 34) (v := .agg (plC a.p0).toArray) rfl rfl (by kernel_rfl) (by kernel_rfl) (by kernel_rfl) (fun _ _ _ h => h) (by rfl) ?_ (by assumption) ?_)
  · (intro W hSW; exact exec_load_at W 27 _ rfl w.heap.size 4 rfl 33 _ (plC a.p0) (0, 0) _ hSW.1 Try.underlying27 rfl (by kernel_rfl) (stC_p0 a))
  simp only [Act.put, List.setIfInBounds_toArray, List.set_cons_zero, List.set_cons_succ]
  (refine takeW (i := 27) (d := 35) (v := ?_) rfl rfl (by kernel_rfl) (by kernel_rfl) (by kernel_rfl) (fun _ _ _ h => h) (by rfl) ?_ (by assumption) ?_)
  rotate_left
  · (intro W hSW; go_simp; (try with_reducible rfl))
  simp only [Act.put, List.setIfInBounds_toArray, List.set_cons_zero, List.set_cons_succ]
  (refine takeW (i := 28) (d := 36) (v := ?_) rfl rfl (by kernel_rfl) (by kernel_rfl) (by kernel_rfl) (fun _ _ _ h => h) (by rfl) ?_ (by assumption) ?_)
  rotate_left
  · (intro W hSW; go_simp; (try with_reducible rfl))
  simp only [Act.put, List.setIfInBounds_toArray, List.set_cons_zero, List.set_cons_succ]
  (refine takeW (i := 29) (d := 37) (v := .agg (plC b.p0).toArray) rfl rfl (by kernel_rfl) (by kernel_rfl) (by kernel_rfl) (fun _ _ _ h => h) (by rfl) ?_ (by assumption) ?_)
  · (intro W hSW; exact exec_load_at W 27 _ rfl (w.heap.size + 1) 4 rfl 33 _ (plC b.p0) (0, 0) _ hSW.2 Try.underlying27 rfl (by kernel_rfl) (stC_p0 b))
  simp only [Act.put, List.setIfInBounds_toArray, List.set_cons_zero, List.set_cons_succ]
  (refine takeW (i := 30) (d := 38) (v := .bool (!decide (a.p0 = b.p0))) rfl rfl (by kernel_rfl) (by kernel_rfl) (by kernel_rfl) (fun _ _ _ h => h) (by rfl) ?_ (by assumption) ?_)
  · (intro W hSW; exact exec_neqP W _ _ _ rfl (a.p0) (b.p0) rfl rfl)
  simp only [Act.put, List.setIfInBounds_toArray, List.set_cons_zero, List.set_cons_succ]
  (refine takeW (i := 31) (d := 39) (v := ?_) rfl rfl (by kernel_rfl) (by kernel_rfl) (by kernel_rfl) (fun _ _ _ h => h) (by rfl) ?_ (by assumption) ?_)
  rotate_left
  · (intro W hSW; go_simp; (try with_reducible rfl))
  simp only [Act.put, List.setIfInBounds_toArray, List.set_cons_zero, List.set_cons_succ]
  (refine takeW (i := 32) (d := 40) (v := ?_) rfl rfl (by kernel_rfl) (by kernel_rfl) (by kernel_rfl) (fun _ _ _ h => h) (by rfl) ?_ (by assumption) ?_)
  rotate_left
  · (intro W hSW; go_simp; (try with_reducible rfl))
  simp only [Act.put, List.setIfInBounds_toArray, List.set_cons_zero, List.set_cons_succ]
  (refine takeW (i := 33) (d := 41) (v := ?_) rfl rfl (by kernel_rfl) (by kernel_rfl) (by kernel_rfl) (fun _ _ _ h => h) (by rfl) ?_ (by assumption) ?_)
  rotate_left
  · (intro W hSW; go_simp; (try with_reducible rfl))
  simp only [Act.put, List.setIfInBounds_toArray, List.set_cons_zero, List.set_cons_succ]
  (refine takeW (i := 34) (d := 42) (v := .agg (plC a.p1).toArray) rfl rfl (by kernel_rfl) (by kernel_rfl) (by kernel_rfl) (fun _ _ _ h => h) (by rfl) ?_ (by assumption) ?_)
  · (intro W hSW; exact exec_load_at W 27 _ rfl w.heap.size 14 rfl 33 _ (plC a.p1) (0, 0) _ hSW.1 Try.underlying27 rfl (by kernel_rfl) (stC_p1 a))
  simp only [Act.put, List.setIfInBounds_toArray, List.set_cons_zero, List.set_cons_succ]
  (refine takeW (i := 35) (d := 43) (v := ?_) rfl rfl (by kernel_rfl) (by kernel_rfl) (by kernel_rfl) (fun _ _ _ h => h) (by rfl) ?_ (by assumption) ?_)
  rotate_left
  · (intro W hSW; go_simp; (try with_reducible rfl))
  simp only [Act.put, List.setIfInBounds_toArray, List.set_cons_zero, List.set_cons_succ]
  (refine takeW (i := 36) (d := 44) (v := ?_) rfl rfl (by kernel_rfl) (by kernel_rfl) (by kernel_rfl) (fun _ _ _ h => h) (by rfl) ?_ (by assumption) ?_)
  rotate_left
  · (intro W hSW; go_simp; (try with_reducible rfl))
  simp only [Act.put, List.setIfInBounds_toArray, List.set_cons_zero, List.set_cons_succ]
  (refine takeW (i := 37) (d := 45) (v := .agg (plC b.p1).toArray) rfl rfl (by kernel_rfl) (by kernel_rfl) (by kernel_rfl) (fun _ _ _ h => h) (by rfl) ?_ (by assumption) ?_)
  · (intro W hSW; exact exec_load_at W 27 _ rfl (w.heap.size + 1) 14 rfl 33 _ (plC b.p1) (0, 0) _ hSW.2 Try.underlying27 rfl (by kernel_rfl) (stC_p1 b))
  simp only [Act.put, List.setIfInBounds_toArray, List.set_cons_zero, List.set_cons_succ]
  (refine takeW (i := 38) (d := 46) (v := .bool (!decide (a.p1 = b.p1))) rfl rfl (by kernel_rfl) (by kernel_rfl) (by kernel_rfl) (fun _ _ _ h => h) (by rfl) ?_ (by assumption) ?_)
  · (intro W hSW; exact exec_neqP W _ _ _ rfl (a.p1) (b.p1) rfl rfl)
  simp only [Act.put, List.setIfInBounds_toArray, List.set_cons_zero, List.set_cons_succ]
  (refine takeW (i := 39) (d := 47) (v := ?_) rfl rfl (by kernel_rfl) (by kernel_rfl) (by kernel_rfl) (fun _ _ _ h => h) (by rfl) ?_ (by assumption) ?_)
  rotate_left
  · (intro W hSW; go_simp; (try with_reducible rfl))
  simp only [Act.put, List.setIfInBounds_toArray, List.set_cons_zero, List.set_cons_succ]
  (refine takeW (i := 40) (d := 48) (v := ?_) rfl rfl (by kernel_rfl) (by kernel_rfl) (by kernel_rfl) (fun _ _ _ h => h) (by rfl) ?_ (by assumption) ?_)
  rotate_left
  · (intro W hSW; go_simp; (try with_reducible rfl))
  simp only [Act.put, List.setIfInBounds_toArray, List.set_cons_zero, List.set_cons_succ]
  (refine takeW (i := 41) (d := 49) (v := .agg (shC a).toArray) rfl rfl (by kernel_rfl) (by kernel_rfl) (by kernel_rfl) (fun _ _ _ h => h) (by rfl) ?_ (by assumption) ?_)
  · (intro W hSW; exact exec_load_at W 31 _ rfl w.heap.size 24 rfl 33 _ (shC a) (0, 0) _ hSW.1 Try.underlying31 rfl (by kernel_rfl) (stC_sh0 a))
  simp only [Act.put, List.setIfInBounds_toArray, List.set_cons_zero, List.set_cons_succ]
  (refine takeW (i := 42) (d := 50) (v := ?_) rfl rfl (by kernel_rfl) (by kernel_rfl) (by kernel_rfl) (fun _ _ _ h => h) (by rfl) ?_ (by assumption) ?_)
  rotate_left
  · (intro W hSW; go_simp; (try with_reducible rfl))
  simp only [Act.put, List.setIfInBounds_toArray, List.set_cons_zero, List.set_cons_succ]
  (refine takeW (i := 43) (d := 51) (v := .agg (shC b).toArray) rfl rfl (by kernel_rfl) (by kernel_rfl) (by kernel_rfl) (fun _ _ _ h => h) (by rfl) ?_ (by assumption) ?_)
  · (intro W hSW; exact exec_load_at W 31 _ rfl (w.heap.size + 1) 24 rfl 33 _ (shC b) (0, 0) _ hSW.2 Try.underlying31 rfl (by kernel_rfl) (stC_sh0 b))
  simp only [Act.put, List.setIfInBounds_toArray, List.set_cons_zero, List.set_cons_succ]
  (refine takeW (i := 44) (d := 52) (v := .bool (!decide (shotsT a = shotsT b))) rfl rfl (by kernel_rfl) (by kernel_rfl) (by kernel_rfl) (fun _ _ _ h => h) (by rfl) ?_ (by assumption) ?_)
  · (intro W hSW; exact exec_neqBs W _ _ _ rfl a b rfl rfl)
  simp only [Act.put, List.setIfInBounds_toArray, List.set_cons_zero, List.set_cons_succ]
  (refine takeW (i := 45) (d := 53) (v := ?_) rfl rfl (by kernel_rfl) (by kernel_rfl) (by kernel_rfl) (fun _ _ _ h => h) (by rfl) ?_ (by assumption) ?_)
  rotate_left
  · (intro W hSW; go_simp; (try with_reducible rfl))
  simp only [Act.put, List.setIfInBounds_toArray, List.set_cons_zero, List.set_cons_succ]
  (refine takeW (i := 48) (d := 56) (v := ?_) rfl rfl (by kernel_rfl) (by kernel_rfl) (by kernel_rfl) (fun _ _ _ h => h) (by rfl) ?_ (by assumption) ?_)
  rotate_left
  · (intro W hSW; go_simp; (try with_reducible rfl))
  simp only [Act.put, List.setIfInBounds_toArray, List.set_cons_zero, List.set_cons_succ]
  refine wpAnyH_ready (rs := [46]) (by kernel_rfl) (by simp) ?_
  refine AllReadyH.cons (i := 46) rfl (fun K hKK => ?_) AllReadyH.nil
  go_simp
  refine hKK.out _ _ ⟨HA0.out.below (Ev.bd1 (Ev.bal (Ev.br _) _)), HZ0.out.below (Ev.bd1 (Ev.bal (Ev.br _) _))⟩ (fun hHeld => ?_)
  clear hKK K
  (try simp only [Act.put, List.setIfInBounds_toArray, List.set_cons_zero, List.set_cons_succ])
  generalize hW : World.drew _ = w1 at hHeld ⊢
  have HG : Hid (At w1 w0.heap.size (partsC a b) 79) := hid (by rw [← hW]; exact (At.new w0 (partsC a b) 79).drew)
  have HB1 : Hid (Below w.heap.size w w1) := hid (by rw [← hW]; exact Ev.bd1 (Ev.bal HB0.out _))
  clear hW
  (refine takeW (i := 47) (d := 55) (v := ?_) rfl rfl (by kernel_rfl) (by kernel_rfl) (by kernel_rfl) (fun _ _ _ h => h) (by rfl) ?_ (by assumption) ?_)
  rotate_left
  · (intro W hSW; go_simp; (try with_reducible rfl))
  simp only [Act.put, List.setIfInBounds_toArray, List.set_cons_zero, List.set_cons_succ]
  refine wpAnyH_done (by kernel_rfl) ?_ _
  refine NoPanic.normal ?_
  go_wp2_with fail
  clear hHeld HA0 HZ0 HB0
  generalize w0.heap.size = g at HG ⊢
  go_loopw [5, 56] (fun v i wr => ∃ k : Nat, k ≤ 7 ∧ i = .int .i64 k ∧ Lib.OwnBuf w.heap.size 9 v (diffL a b k).length (strsV (diffL a b k)) w wr ∧ At wr g (partsC a b) 79) (fun _ i _ => 7 - (intOf i).toNat)
  case atStart => exact ⟨0, Nat.zero_le _, rfl, ⟨World.ownsRowF_nil _ _ _ _, HB1.out, HB1.out.size⟩, HG.out⟩
  case round =>
    obtain ⟨k, hk, rfl, hO, hG⟩ := hrel
    have HO := hid hO; have HG2 := hid hG; clear hO hG HG HB1
    by_cases hlt : k < 7
    · have hk0 : (0 : Int) ≤ (k : Int) := by omega
      have hk1 : (k : Int) < 7 := by omega
      obtain ⟨hp1, hp2⟩ := parts_at a b k hlt
      have cn : wr.cell? ⟨g, k * 2, none⟩ = some (.string ⟨(pName k).toArray⟩) := (cell_of_row wr g _ _ _ _ HG2.out).trans hp1
      have cd : wr.cell? ⟨g, k * 2 + 1, none⟩ = some (.bool (pDif a b k)) := (cell_of_row wr g _ _ _ _ HG2.out).trans hp2
      have HD : Hid (diffL a b (k + 1) = if pDif a b k then diffL a b k ++ [pName k] else diffL a b k) := hid rfl
      have HLn := hid (diff_len a b k)
      clear hp1 hp2
      generalize pName k = nm at cn HD
      generalize pDif a b k = df at cd HD
      go_upto_region 5 with fail
      have HX := hid (HO.out.alloc (.cells #[.string ⟨nm.toArray⟩, .bool df] 79))
      have HGx := hid (HG2.out.more (.cells #[.string ⟨nm.toArray⟩, .bool df] 79))
      have HXs := hid (At.new wr #[.string ⟨nm.toArray⟩, .bool df] 79)
      have HXz : Hid ((wr.alloc (.cells #[.string ⟨nm.toArray⟩, .bool df] 79)).heap.size = wr.heap.size + 1) := hid (by simp)
      clear cn cd HO HG2
      generalize World.alloc wr _ = wa at HX HGx HXs HXz ⊢
      have c0 : wa.cell? ⟨wr.heap.size, 0, none⟩ = some (.string ⟨nm.toArray⟩) := cell_of_row wa _ 0 _ _ _ HXs.out
      have c1 : wa.cell? ⟨wr.heap.size, 1, none⟩ = some (.bool df) := cell_of_row wa _ 1 _ _ _ HXs.out
      cases df
      · have HE : Hid (diffL a b (k + 1) = diffL a b k) := hid (HD.out.trans rfl)
        go_wp2_with fail
        go_roundw
        case rel => exact ⟨k + 1, by omega, by go_num, by rw [HE.out]; exact HX.out, HGx.out⟩
        case measure => simp [intOf]; omega
      · have HE : Hid (diffL a b (k + 1) = diffL a b k ++ [nm]) := hid (HD.out.trans rfl)
        obtain ⟨i0, hi, hz⟩ := Option.map_eq_some_iff.1 info_str
        obtain ⟨hz0, hz1, hz2⟩ := Pk.info_parts hz
        go_wp2_with (at_builtin; (refine app_one rfl (.tmp 62) (.tmp 65) 48 rfl w.heap.size 9 i0 (.string ⟨#[]⟩) 16 Try.underlying48 hi hz0 hz1 hz2 rfl u5 _ _ rfl w _ (.string ⟨nm.toArray⟩) rfl HX.out rfl (by have := HLn.out; omega) (by decide) ?_; intro v' w' hO' hgr; have HO' := hid hO'; have HGf := hid (at_grown (HGx.out.more _) hgr (own_ne HX.out.1 HGx.out (by decide))); clear hO' hgr))
        go_roundw
        case rel => exact ⟨k + 1, by omega, by go_num, by rw [HE.out, strsV_snoc, List.length_append]; exact HO'.out, HGf.out⟩
        case measure => simp [intOf]; omega
    · have hk7 : k = 7 := by omega
      subst hk7
      go_wp2_with fail
      go_ret
      exact ⟨_, rfl, HO.out⟩
end Go.Proofs.Ythbncbdnpeglfaa.Fz
