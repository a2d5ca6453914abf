/- The document's Unpack (layer 13, freeze). -/
import Derived.Test.YthbncbdnpeglfaaFzRx
namespace Go.Proofs.Ythbncbdnpeglfaa.Fz
open Go.RowKit
open Go.Proofs.Ythbncbdnpeglfaa.Ev (At)
open Go.Proofs.Ythbncbdnpeglfaa.Sh (vec)
open Go.Proofs.Ythbncbdnpeglfaa.Gm (hid Pl Bu St plC plA buC buA stC zeroP zeroB zeroS plS setP shS setS rightS takeW wpList_load_at wpList_store_at wp_store_at at_row at_row_far below_row rright_c stC_pk stC_bk)
open Go.Proofs.Ythbncbdnpeglfaa.Pk (numL rdN rdV sgnN unsN num_pos uns_sgn)
set_option linter.unusedVariables false

/-- what Numbers answers, with one form of the answer. -/
theorem numbers_o (σ : List UInt8) (w : World) (hs : σ.length ≤ 1000) :
    Calls Try.prog 26 #[.string ⟨σ.toArray⟩] w fun e w' => ∃ v ok l, e = .returned (.tuple #[v, .bool ok]) ∧ Below w.heap.size w w' ∧ ((ok = true ∧ NumsV w' v l ∧ bd64 l ∧ l.length ≤ 1000 ∧ flatN l = σ) ∨ (ok = false ∧ ∀ l, bd64 l → flatN l ≠ σ)) := by
  refine (numbers_c ⟨σ.toArray⟩ w (by rw [Lib.size_eq]; simpa using hs)).mono fun e w' h => ?_
  have e2 : (⟨σ.toArray⟩ : ByteArray).data.toList = σ := by simp
  unfold NumsOf at h
  rw [e2] at h
  obtain ⟨hb, ⟨v, l, rfl, h1, h2, h3, h4⟩ | ⟨rfl, h1⟩⟩ := h
  · exact ⟨v, true, l, rfl, hb, .inl ⟨rfl, h1, h2, h3, h4⟩⟩
  · exact ⟨_, false, [], rfl, hb, .inr ⟨rfl, h1⟩⟩
def runpV (σ : List UInt8) : Value := .tuple #[.agg (stC ((unpR σ).getD zeroS)).toArray, .bool (unpR σ).isSome]
theorem runp_none {σ : List UInt8} (h : unpR σ = none) : runpV σ = .tuple #[.agg (stC zeroS).toArray, .bool false] := by unfold runpV; rw [h]; rfl
theorem runp_some {σ : List UInt8} {s : St} (h : unpR σ = some s) : runpV σ = .tuple #[.agg (stC s).toArray, .bool true] := by unfold runpV; rw [h]; rfl
theorem none_of {σ : List UInt8} (h : ∀ s, unpR σ = some s → False) : unpR σ = none := by
  cases e : unpR σ with
  | none => rfl
  | some s => exact absurd e (fun e => h s e)
theorem Ns.get {w : World} {ao : Option Addr} {l : List Nat} (h : Ns w ao l) (h0 : 0 < l.length) : ∃ b o, ao = some ⟨b, o, none⟩ ∧ b < w.heap.size ∧ ∀ j, j < l.length → w.cell? ⟨b, o + j, none⟩ = some (.int .u64 (nt l j : Int)) := by
  obtain ⟨b, o, e, hb, hc⟩ := h h0
  exact ⟨b, o, e, hb, fun j hj => by rw [hc j hj, nt_at hj]⟩
theorem mem_nt {l : List Nat} {M : Nat} (h : ∀ j, j < l.length → nt l j ≤ M) : ∀ n, n ∈ l → n ≤ M := by
  intro n hn
  obtain ⟨j, hj, rfl⟩ := List.getElem_of_mem hn
  rw [nt_at hj]
  exact h j hj
theorem stP_row (s : St) {k : Nat} (hk : k < 2) (p : Pl) : (List.take (4 + k * 10) (stC s) ++ plC p ++ List.drop (4 + k * 10 + 10) (stC s)).toArray = (stC (setP s k p)).toArray := by
  have hh : k = 0 ∨ k = 1 := by omega
  rcases hh with rfl | rfl <;> rfl
set_option maxHeartbeats 4000000 in
theorem stB_row (s : St) {k : Nat} (hk : k < 6) (x : Bu) : (List.take (24 + k * 6) (stC s) ++ buC x ++ List.drop (24 + k * 6 + 6) (stC s)).toArray = (stC (setS s k x)).toArray := by
  have hh : k = 0 ∨ k = 1 ∨ k = 2 ∨ k = 3 ∨ k = 4 ∨ k = 5 := by omega
  rcases hh with rfl | rfl | rfl | rfl | rfl | rfl <;> rfl
theorem at_setP {w w' : World} {g : Nat} {T : TypeId} {s : St} {k : Nat} (hk : k < 2) (p : Pl) (h : At w g (stC s).toArray T) (hW : w.setRow g (List.take (4 + k * 10) (stC s) ++ plC p ++ List.drop (4 + k * 10 + 10) (stC s)).toArray = w') : At w' g (stC (setP s k p)).toArray T := by
  rw [← hW, ← stP_row s hk p]
  exact at_row h _
theorem at_setS {w w' : World} {g : Nat} {T : TypeId} {s : St} {k : Nat} (hk : k < 6) (x : Bu) (h : At w g (stC s).toArray T) (hW : w.setRow g (List.take (24 + k * 6) (stC s) ++ buC x ++ List.drop (24 + k * 6 + 6) (stC s)).toArray = w') : At w' g (stC (setS s k x)).toArray T := by
  rw [← hW, ← stB_row s hk x]
  exact at_row h _
theorem wpList_load_atg {P : Program} {ops : Array Oper} {rest : List Oper} {o : Oper} {a : Act} {w : World} {Q : Exit → Act → World → Prop} (hgd : Region.wanted o (yielded ops a.tmps) = true) (ty : TypeId) (x : Operand) (ho : o.op = .load ty x)
    (g k : Nat) (hx : a.eval x = .pointer (some ⟨g, k, none⟩)) (t : TypeId) (cs : Array Value) (vs : List Value) (fr : Nat × Nat) (d : TypeDesc) (hg : w.heap[g]? = some (.cells cs t fr))
    (hu : P.underlying ty = some d) (hd : (match d with | .struct _ | .array _ _ => true | _ => false) = true) (hi : (P.info? ty).map (·.size) = some vs.length) (hv : ∀ j v, vs[j]? = some v → cs[k + j]? = some v)
    (h : wpList P ops Q rest (a.put o.dst (.agg vs.toArray)) w) : wpList P ops Q (o :: rest) a w := by
  refine wpList_step fun K hK => ?_
  rw [if_pos hgd]
  exact Gm.wp_load_at ty x ho g k hx t cs vs fr d hg hu hd hi hv (hK _ _ h)
theorem bit_zero {x : Bu} (h : bit x = 0) : x = zeroB := by
  unfold bit at h
  split at h
  · assumption
  · omega
theorem bit_one {x : Bu} (h : bit x = 1) : x ≠ zeroB := by
  unfold bit at h
  split at h
  · omega
  · assumption
theorem drop_bd {l : List Nat} {M : Nat} (h : ∀ n, n ∈ l → n ≤ M) (k : Nat) : ∀ n, n ∈ l.drop k → n ≤ M := fun n hn => h n (List.mem_of_mem_drop hn)

set_option maxRecDepth 100000 in
set_option maxHeartbeats 40000000 in
theorem runpack_c (σ : List UInt8) (w : World) (hs : σ.length ≤ 1000) :
    Calls Try.prog 13 #[.string ⟨σ.toArray⟩] w fun e w' => e = .returned (runpV σ) ∧ Below w.heap.size w w' := by
  have HR := hid (At.new w (stC zeroS).toArray 33)
  have HB := hid (Ev.bal (Ev.br w) (.cells (stC zeroS).toArray 33))
  have HN := fun W => numbers_o σ W hs
  go_enter Try.func13, Try.ntmps13
  go_upto_region 1 with fail
  generalize hw : World.alloc w _ = w0
  have HR0 : Hid (At w0 w.heap.size (stC zeroS).toArray 33) := hid (by rw [← hw]; exact HR.out)
  have HB0 : Hid (Below w.heap.size w w0) := hid (by rw [← hw]; exact HB.out)
  clear hw HR HB
  go_upto_region 2 with (go_at_call 26; ((with_reducible refine (HN _).mono ?_); rintro e w1 ⟨v, ok, l, rfl, g1, hn⟩; have HR1 := hid (HR0.out.below g1); have HB1 := hid (Ev.bt HB0.out g1); have HNn := hid hn; clear hn g1))
  clear HN HR0 HB0
  rcases HNn.out with ⟨rfl, hv, h64, hl, hfl⟩ | ⟨rfl, hno⟩
  case inr =>
    have HV := hid (runp_none (none_of fun s h => hno _ (known h).bd64 (known h).by_))
    clear hno HNn
    go_wp2_with ((with_reducible show wpList _ _ _ _ _ _); refine wpList_store_at rfl 33 _ _ rfl w.heap.size 0 (stC zeroS) rfl rfl 33 _ HR1.out (by kernel_rfl) (by show 60 ≤ 60; decide) rfl ?_)
    generalize hW : World.setRow _ _ _ = wz
    have HS : Hid (At wz w.heap.size (stC zeroS).toArray 33) := hid (by rw [← hW]; exact at_row HR1.out _)
    have HB5 : Hid (Below w.heap.size w wz) := hid (by rw [← hW]; exact below_row HB1.out (Nat.le_refl _) _)
    clear hW
    refine bodyPost_ret (Gm.results_cell_tmp rfl _ _ w.heap.size 33 (stC zeroS).toArray (0, 0) _ rfl HS.out Try.underlying33 rfl (by kernel_rfl)) rfl ?_
    exact ⟨by rw [HV.out]; rfl, HB5.out⟩
  case inl =>
    have HG : Hid (∀ s, unpR σ = some s → l = numsS s) := hid (fun s h => (known h).list h64 hfl)
    obtain ⟨ao, L, cap, rfl, hL, hLc, hcm, hns⟩ := hv
    clear HNn h64 hfl
    by_cases h25 : L < 25
    · have HV := hid (runp_none (none_of fun s h => by
        have e := HG.out s h
        have := nums_len s
        rw [← e] at this
        omega))
      clear hns HG hl hL
      go_wp2_with ((with_reducible show wpList _ _ _ _ _ _); refine wpList_store_at rfl 33 _ _ rfl w.heap.size 0 (stC zeroS) rfl rfl 33 _ HR1.out (by kernel_rfl) (by show 60 ≤ 60; decide) rfl ?_)
      generalize hW : World.setRow _ _ _ = wz
      have HS : Hid (At wz w.heap.size (stC zeroS).toArray 33) := hid (by rw [← hW]; exact at_row HR1.out _)
      have HB5 : Hid (Below w.heap.size w wz) := hid (by rw [← hW]; exact below_row HB1.out (Nat.le_refl _) _)
      clear hW
      refine bodyPost_ret (Gm.results_cell_tmp rfl _ _ w.heap.size 33 (stC zeroS).toArray (0, 0) _ rfl HS.out Try.underlying33 rfl (by kernel_rfl)) rfl ?_
      exact ⟨by rw [HV.out]; rfl, HB5.out⟩
    · obtain ⟨b, o, rfl, hbw, hcell⟩ := hns.get (by omega)
      have hL25 : 25 ≤ L := by omega
      have HNs := hid hns
      have HC := hid hcell
      have HLn := hid hL
      have hl9 : L ≤ 1000 := by omega
      clear hns hcell hL hl h25
      go_wp2_with fail
      go_loopw [6] (fun i wr => ∃ k : Nat, k ≤ L ∧ i = .int .i64 k ∧ wr = w1 ∧ Hid (∀ j, j < k → nt l j ≤ 4294967295)) (fun i _ => L - (intOf i).toNat)
      case atStart => exact ⟨0, Nat.zero_le _, rfl, rfl, hid (fun j hj => by omega)⟩
      case round =>
        obtain ⟨k, hk, rfl, rfl, hbd⟩ := hrel
        by_cases hlt : k < L
        · have hk1 : (k : Int) < (L : Int) := by omega
          have hk0 : (0 : Int) ≤ (k : Int) := by omega
          have c0 := HC.out k (by have := HLn.out; omega)
          by_cases hbig : 4294967295 < nt l k
          · have HV := hid (runp_none (none_of fun s h => by
              have e := HG.out s h
              have := nt_bd (known h).bd k
              rw [← e] at this
              omega))
            clear hbd HG
            generalize nt l k = n at c0 hbig
            go_wp2_with ((with_reducible show wpList _ _ _ _ _ _); refine wpList_store_at rfl 33 _ _ rfl w.heap.size 0 (stC zeroS) rfl rfl 33 _ HR1.out (by kernel_rfl) (by show 60 ≤ 60; decide) rfl ?_)
            generalize hW : World.setRow _ _ _ = wz
            have HS : Hid (At wz w.heap.size (stC zeroS).toArray 33) := hid (by rw [← hW]; exact at_row HR1.out _)
            have HB5 : Hid (Below w.heap.size w wz) := hid (by rw [← hW]; exact below_row HB1.out (Nat.le_refl _) _)
            clear hW
            refine bodyPost_ret (Gm.results_cell_tmp rfl _ _ w.heap.size 33 (stC zeroS).toArray (0, 0) _ rfl HS.out Try.underlying33 rfl (by kernel_rfl)) rfl ?_
            exact ⟨by rw [HV.out]; rfl, HB5.out⟩
          · have HBd2 : Hid (∀ j, j < k + 1 → nt l j ≤ 4294967295) := hid (fun j hj => by
              rcases Nat.lt_or_eq_of_le (Nat.le_of_lt_succ hj) with e | e
              · exact hbd.out j e
              · rw [e]; omega)
            clear hbd
            generalize nt l k = n at c0 hbig
            go_wp2_with fail
            go_roundw
            case rel => exact ⟨k + 1, hlt, by go_num, trivial, HBd2⟩
            case measure => simp [intOf]; omega
        · have hkL : L = k := by omega
          subst hkL
          obtain ⟨wq, hwq⟩ : ∃ x, x = wr := ⟨_, rfl⟩
          subst hwq
          have HM : Hid (∀ n, n ∈ l → n ≤ 4294967295) := hid (mem_nt (by rw [HLn.out]; exact hbd.out))
          have hn0 := nt_bd HM.out 0
          have hn1 := nt_bd HM.out 1
          have hn2 := nt_bd HM.out 2
          have hn3 := nt_bd HM.out 3
          have hK : Hid (∀ W, Below wq.heap.size wq W → W.cell? ⟨b, o, none⟩ = some (.int .u64 (nt l 0 : Int)) ∧ W.cell? ⟨b, o + 1, none⟩ = some (.int .u64 (nt l 1 : Int)) ∧ W.cell? ⟨b, o + 2, none⟩ = some (.int .u64 (nt l 2 : Int)) ∧ W.cell? ⟨b, o + 3, none⟩ = some (.int .u64 (nt l 3 : Int))) := hid (fun W g => ⟨(g.cell (p := ⟨b, o, none⟩) hbw).trans (HC.out 0 (by have := HLn.out; omega)), (g.cell (p := ⟨b, o + 1, none⟩) hbw).trans (HC.out 1 (by have := HLn.out; omega)), (g.cell (p := ⟨b, o + 2, none⟩) hbw).trans (HC.out 2 (by have := HLn.out; omega)), (g.cell (p := ⟨b, o + 3, none⟩) hbw).trans (HC.out 3 (by have := HLn.out; omega))⟩)
          have HTy := hid (ty_headOf HM.out)
          have HE : Hid (headOf l = ⟨(nt l 0 : Int), (nt l 1 : Int), (nt l 2 : Int), (nt l 3 : Int), zeroP, zeroP, zeroB, zeroB, zeroB, zeroB, zeroB, zeroB⟩) := hid rfl
          have HHd : Hid (∀ s, unpR σ = some s → headOf l = preP s 0) := hid (fun s h => by rw [HG.out s h]; exact head_of (known h).nn)
          generalize headOf l = S0 at HTy HE HHd
          generalize nt l 0 = n0 at hn0 hK HE
          generalize nt l 1 = n1 at hn1 hK HE
          generalize nt l 2 = n2 at hn2 hK HE
          generalize nt l 3 = n3 at hn3 hK HE
          have q0 : IntKind.i64.wrap (n0 : Int) = n0 := wrap_i64 (nat64 hn0)
          have q1 : IntKind.u32.wrap (n1 : Int) = n1 := wrap_u32 (by omega)
          have q2 : IntKind.i64.wrap (n2 : Int) = n2 := wrap_i64 (nat64 hn2)
          have q3 : IntKind.i64.wrap (n3 : Int) = n3 := wrap_i64 (nat64 hn3)
          have hk25 : (25 : Int) ≤ (L : Int) := by omega
          have hi0 : 0 < L := by omega
          have hi1 : 1 < L := by omega
          have hi2 : 2 < L := by omega
          have hi3 : 3 < L := by omega
          have hj1 : (1 : Int) < (L : Int) := by omega
          have hj2 : (2 : Int) < (L : Int) := by omega
          have hj3 : (3 : Int) < (L : Int) := by omega
          have hlw : w.heap.size < wq.heap.size := at_lt HR1.out
          clear hbd hlt hk
          go_upto_region 9 with fail
          refine wp_region_noPanic ?_
          refine wp_region_held_drew (S := (fun W => Below wq.heap.size wq W)) (by kernel_rfl) (Ev.bd1 (Ev.br _)) (fun hHeld => ?_)
          (refine takeW (i := 0) (d := 37) (v := ?_) rfl rfl (by kernel_rfl) (by kernel_rfl) (by kernel_rfl) (fun _ _ _ h => h) (by rfl) ?_ (by assumption) ?_)
          rotate_left
          · (intro W hSW; go_simp; (try with_reducible rfl))
          simp only [Act.put, List.setIfInBounds_toArray, List.set_cons_zero, List.set_cons_succ]
          (refine takeW (i := 1) (d := 38) (v := ?_) rfl rfl (by kernel_rfl) (by kernel_rfl) (by kernel_rfl) (fun _ _ _ h => h) (by rfl) ?_ (by assumption) ?_)
          rotate_left
          · (intro W hSW; go_simp; (try with_reducible rfl))
          simp only [Act.put, List.setIfInBounds_toArray, List.set_cons_zero, List.set_cons_succ]
          (refine takeW (i := 2) (d := 39) (v := ?_) rfl rfl (by kernel_rfl) (by kernel_rfl) (by kernel_rfl) (fun _ _ _ h => h) (by rfl) ?_ (by assumption) ?_)
          rotate_left
          · (intro W hSW; have hSW2 := hK.out W hSW; go_simp; (try with_reducible rfl))
          simp only [Act.put, List.setIfInBounds_toArray, List.set_cons_zero, List.set_cons_succ]
          (refine takeW (i := 3) (d := 40) (v := ?_) rfl rfl (by kernel_rfl) (by kernel_rfl) (by kernel_rfl) (fun _ _ _ h => h) (by rfl) ?_ (by assumption) ?_)
          rotate_left
          · (intro W hSW; go_simp; (try with_reducible rfl))
          simp only [Act.put, List.setIfInBounds_toArray, List.set_cons_zero, List.set_cons_succ]
          (refine takeW (i := 4) (d := 41) (v := ?_) rfl rfl (by kernel_rfl) (by kernel_rfl) (by kernel_rfl) (fun _ _ _ h => h) (by rfl) ?_ (by assumption) ?_)
          rotate_left
          · (intro W hSW; go_simp; (try with_reducible rfl))
          simp only [Act.put, List.setIfInBounds_toArray, List.set_cons_zero, List.set_cons_succ]
          (refine takeW (i := 5) (d := 42) (v := ?_) rfl rfl (by kernel_rfl) (by kernel_rfl) (by kernel_rfl) (fun _ _ _ h => h) (by rfl) ?_ (by assumption) ?_)
          rotate_left
          · (intro W hSW; go_simp; (try with_reducible rfl))
          simp only [Act.put, List.setIfInBounds_toArray, List.set_cons_zero, List.set_cons_succ]
          (refine takeW (i := 6) (d := 43) (v := ?_) rfl rfl (by kernel_rfl) (by kernel_rfl) (by kernel_rfl) (fun _ _ _ h => h) (by rfl) ?_ (by assumption) ?_)
          rotate_left
          · (intro W hSW; have hSW2 := hK.out W hSW; go_simp; (try with_reducible rfl))
          simp only [Act.put, List.setIfInBounds_toArray, List.set_cons_zero, List.set_cons_succ]
          (refine takeW (i := 7) (d := 44) (v := ?_) rfl rfl (by kernel_rfl) (by kernel_rfl) (by kernel_rfl) (fun _ _ _ h => h) (by rfl) ?_ (by assumption) ?_)
          rotate_left
          · (intro W hSW; go_simp; (try with_reducible rfl))
          simp only [Act.put, List.setIfInBounds_toArray, List.set_cons_zero, List.set_cons_succ]
          (refine takeW (i := 8) (d := 45) (v := ?_) rfl rfl (by kernel_rfl) (by kernel_rfl) (by kernel_rfl) (fun _ _ _ h => h) (by rfl) ?_ (by assumption) ?_)
          rotate_left
          · (intro W hSW; go_simp; (try with_reducible rfl))
          simp only [Act.put, List.setIfInBounds_toArray, List.set_cons_zero, List.set_cons_succ]
          (refine takeW (i := 9) (d := 46) (v := ?_) rfl rfl (by kernel_rfl) (by kernel_rfl) (by kernel_rfl) (fun _ _ _ h => h) (by rfl) ?_ (by assumption) ?_)
          rotate_left
          · (intro W hSW; go_simp; (try with_reducible rfl))
          simp only [Act.put, List.setIfInBounds_toArray, List.set_cons_zero, List.set_cons_succ]
          (refine takeW (i := 10) (d := 47) (v := ?_) rfl rfl (by kernel_rfl) (by kernel_rfl) (by kernel_rfl) (fun _ _ _ h => h) (by rfl) ?_ (by assumption) ?_)
          rotate_left
          · (intro W hSW; have hSW2 := hK.out W hSW; go_simp; (try with_reducible rfl))
          simp only [Act.put, List.setIfInBounds_toArray, List.set_cons_zero, List.set_cons_succ]
          (refine takeW (i := 11) (d := 48) (v := ?_) rfl rfl (by kernel_rfl) (by kernel_rfl) (by kernel_rfl) (fun _ _ _ h => h) (by rfl) ?_ (by assumption) ?_)
          rotate_left
          · (intro W hSW; go_simp; (try with_reducible rfl))
          simp only [Act.put, List.setIfInBounds_toArray, List.set_cons_zero, List.set_cons_succ]
          (refine takeW (i := 12) (d := 49) (v := ?_) rfl rfl (by kernel_rfl) (by kernel_rfl) (by kernel_rfl) (fun _ _ _ h => h) (by rfl) ?_ (by assumption) ?_)
          rotate_left
          · (intro W hSW; go_simp; (try with_reducible rfl))
          simp only [Act.put, List.setIfInBounds_toArray, List.set_cons_zero, List.set_cons_succ]
          (refine takeW (i := 13) (d := 50) (v := ?_) rfl rfl (by kernel_rfl) (by kernel_rfl) (by kernel_rfl) (fun _ _ _ h => h) (by rfl) ?_ (by assumption) ?_)
          rotate_left
          · (intro W hSW; go_simp; (try with_reducible rfl))
          simp only [Act.put, List.setIfInBounds_toArray, List.set_cons_zero, List.set_cons_succ]
          (refine takeW (i := 14) (d := 51) (v := ?_) rfl rfl (by kernel_rfl) (by kernel_rfl) (by kernel_rfl) (fun _ _ _ h => h) (by rfl) ?_ (by assumption) ?_)
          rotate_left
          · (intro W hSW; have hSW2 := hK.out W hSW; go_simp; (try with_reducible rfl))
          simp only [Act.put, List.setIfInBounds_toArray, List.set_cons_zero, List.set_cons_succ]
          (refine takeW (i := 15) (d := 52) (v := ?_) rfl rfl (by kernel_rfl) (by kernel_rfl) (by kernel_rfl) (fun _ _ _ h => h) (by rfl) ?_ (by assumption) ?_)
          rotate_left
          · (intro W hSW; go_simp; (try with_reducible rfl))
          simp only [Act.put, List.setIfInBounds_toArray, List.set_cons_zero, List.set_cons_succ]
          (refine takeW (i := 16) (d := 53) (v := ?_) rfl rfl (by kernel_rfl) (by kernel_rfl) (by kernel_rfl) (fun _ _ _ h => h) (by rfl) ?_ (by assumption) ?_)
          rotate_left
          · (intro W hSW; go_simp; (try with_reducible rfl))
          simp only [Act.put, List.setIfInBounds_toArray, List.set_cons_zero, List.set_cons_succ]
          refine wpAnyH_ready (rs := [17]) (by kernel_rfl) (by simp) ?_
          refine AllReadyH.cons (i := 17) rfl (fun K hKK => ?_) AllReadyH.nil
          go_simp
          (try dsimp only)
          generalize hW : World.drew _ = w8
          have HP8 : Hid (At w8 wq.heap.size (stC zeroS).toArray 33) := hid (by rw [← hW]; exact (At.new wq (stC zeroS).toArray 33).drew)
          have HR8 : Hid (At w8 w.heap.size (stC zeroS).toArray 33) := hid (by rw [← hW]; exact HR1.out.below (Ev.bd1 (Ev.bal (Ev.br wq) (.cells (stC zeroS).toArray 33))))
          have HB8 : Hid (Below w.heap.size w w8) := hid (by rw [← hW]; exact Ev.bt HB1.out (Ev.bd1 (Ev.bal (Ev.br wq) (.cells (stC zeroS).toArray 33))))
          have HW8 : Hid (Below wq.heap.size wq w8) := hid (by rw [← hW]; exact Ev.bd1 (Ev.bal (Ev.br wq) (.cells (stC zeroS).toArray 33)))
          clear hW
          refine hKK.out _ _ HW8.out (fun hHeld => ?_)
          clear hKK K
          (try simp only [Act.put, List.setIfInBounds_toArray, List.set_cons_zero, List.set_cons_succ])
          refine wpAnyH_ready (rs := [18]) (by kernel_rfl) (by simp) ?_
          refine AllReadyH.cons (i := 18) rfl (fun K hKK => ?_) AllReadyH.nil
          rw [if_pos (by rfl)]
          refine wp_store_at 33 _ _ rfl wq.heap.size 0 (stC (⟨(n0 : Int), (n1 : Int), (n2 : Int), (n3 : Int), zeroP, zeroP, zeroB, zeroB, zeroB, zeroB, zeroB, zeroB⟩ : St)) rfl rfl 33 _ HP8.out (by kernel_rfl) (by show 60 ≤ 60; decide) rfl ?_
          change K (Act.put _ none undef) _
          generalize hW : World.setRow _ _ _ = w9
          have HP9 : Hid (At w9 wq.heap.size (stC S0).toArray 33) := hid (by rw [← hW]; exact HE.out ▸ at_row HP8.out _)
          have HR9 : Hid (At w9 w.heap.size (stC zeroS).toArray 33) := hid (by rw [← hW]; exact at_row_far HR8.out (Nat.ne_of_lt hlw) _)
          have HB9 : Hid (Below w.heap.size w w9) := hid (by rw [← hW]; exact below_row HB8.out (Nat.le_of_lt hlw) _)
          have HW9 : Hid (Below wq.heap.size wq w9) := hid (by rw [← hW]; exact below_row HW8.out (Nat.le_refl _) _)
          clear hW
          refine hKK.out _ _ HW9.out (fun hHeld => ?_)
          clear hKK K
          (try simp only [Act.put])
          refine wpAnyH_done (by kernel_rfl) ?_ _
          refine NoPanic.normal ?_
          clear q0 q1 q2 q3 hn0 hn1 hn2 hn3 hK HE hHeld
          go_wp2_with fail
          go_loopw [8] (fun i w2 => ∃ (k : Nat) (S : St), k ≤ 2 ∧ i = .int .i64 k ∧ At w2 wq.heap.size (stC S).toArray 33 ∧ Hid (Ty S) ∧ At w2 w.heap.size (stC zeroS).toArray 33 ∧ Below w.heap.size w w2 ∧ Below wq.heap.size wq w2 ∧ Hid (∀ s, unpR σ = some s → S = preP s k)) (fun i _ => 2 - (intOf i).toNat)
          case atStart => exact ⟨0, S0, by decide, rfl, HP9.out, HTy, HR9.out, HB9.out, HW9.out, HHd⟩
          case round =>
            obtain ⟨k, S, hk, rfl, hA, HT, hR, hB, hW, HS⟩ := hrel
            have HA2 := hid hA; have HR2 := hid hR; have HB2 := hid hB; have HW2 := hid hW
            clear hA hR hB hW HP9 HR9 HB9 HW9 HTy HHd
            by_cases hlt : k < 2
            · have hk1 : (k : Int) < 2 := by omega
              have hk0 : (0 : Int) ≤ (k : Int) := by omega
              have HMm := hid (drop_bd HM.out (4 + k * 10))
              have HPt : Hid (tpP (plOf (l.drop (4 + k * 10)))) := hid (plOf_ty HMm.out)
              have HPs : Hid (∀ s, unpR σ = some s → plOf (l.drop (4 + k * 10)) = plS s k) := hid (fun s h => by rw [HG.out s h]; exact pl_at (known h).nn hlt)
              have hcc : ∀ j, j < 10 → ∀ W, Below wq.heap.size wq W → W.cell? ⟨b, o + (4 + k * 10) + j, none⟩ = some (.int .u64 (nt (l.drop (4 + k * 10)) j : Int)) := fun j hj W g => by
                rw [nt_drop, Nat.add_assoc]
                exact (g.cell (p := ⟨b, o + (4 + k * 10 + j), none⟩) hbw).trans (HC.out (4 + k * 10 + j) (by have := HLn.out; omega))
              have hnn : ∀ j, nt (l.drop (4 + k * 10)) j ≤ 4294967295 := fun j => nt_bd HMm.out j
              have HE : Hid (plOf (l.drop (4 + k * 10)) = ⟨unsN (nt (l.drop (4 + k * 10)) 0), unsN (nt (l.drop (4 + k * 10)) 1), unsN (nt (l.drop (4 + k * 10)) 2), unsN (nt (l.drop (4 + k * 10)) 3), (nt (l.drop (4 + k * 10)) 4 : Int), (nt (l.drop (4 + k * 10)) 5 : Int), (nt (l.drop (4 + k * 10)) 6 : Int), (nt (l.drop (4 + k * 10)) 7 : Int), (nt (l.drop (4 + k * 10)) 8 : Int), (nt (l.drop (4 + k * 10)) 9 : Int)⟩) := hid rfl
              generalize plOf (l.drop (4 + k * 10)) = p at HPt HPs HE
              generalize nt (l.drop (4 + k * 10)) = m at hcc hnn HE
              have hs1 : 4 + k * 10 < L := by omega
              have hs2 : (4 : Int) + 10 * (k : Int) = ((4 + k * 10 : Nat) : Int) := by omega
              have hs3 : 4 + 10 * (k : Int) ≤ (cap : Int) := by omega
              have hs4 : 4 + 10 * (k : Int) ≤ (L : Int) := by omega
              go_upto_region 14 with fail
              generalize o + (4 + k * 10) = o2 at hcc ⊢
              have hL2 : 10 ≤ L - (4 + k * 10) := by omega
              generalize L - (4 + k * 10) = L2 at hL2 ⊢
              generalize cap - (4 + k * 10) = cap2
              have HF0 := fun W => fix_c (m 0) W (hnn 0)
              have HF1 := fun W => fix_c (m 1) W (hnn 1)
              have HF2 := fun W => fix_c (m 2) W (hnn 2)
              have HF3 := fun W => fix_c (m 3) W (hnn 3)
              have hK : Hid (∀ W, Below wq.heap.size wq W → W.cell? ⟨b, o2, none⟩ = some (.int .u64 (m 0 : Int)) ∧ W.cell? ⟨b, o2 + 1, none⟩ = some (.int .u64 (m 1 : Int)) ∧ W.cell? ⟨b, o2 + 2, none⟩ = some (.int .u64 (m 2 : Int)) ∧ W.cell? ⟨b, o2 + 3, none⟩ = some (.int .u64 (m 3 : Int)) ∧ W.cell? ⟨b, o2 + 4, none⟩ = some (.int .u64 (m 4 : Int)) ∧ W.cell? ⟨b, o2 + 5, none⟩ = some (.int .u64 (m 5 : Int)) ∧ W.cell? ⟨b, o2 + 6, none⟩ = some (.int .u64 (m 6 : Int)) ∧ W.cell? ⟨b, o2 + 7, none⟩ = some (.int .u64 (m 7 : Int)) ∧ W.cell? ⟨b, o2 + 8, none⟩ = some (.int .u64 (m 8 : Int)) ∧ W.cell? ⟨b, o2 + 9, none⟩ = some (.int .u64 (m 9 : Int))) := hid (fun W g2 => ⟨hcc 0 (by decide) W g2, hcc 1 (by decide) W g2, hcc 2 (by decide) W g2, hcc 3 (by decide) W g2, hcc 4 (by decide) W g2, hcc 5 (by decide) W g2, hcc 6 (by decide) W g2, hcc 7 (by decide) W g2, hcc 8 (by decide) W g2, hcc 9 (by decide) W g2⟩)
              have q4 : IntKind.i64.wrap (m 4 : Int) = m 4 := wrap_i64 (nat64 (hnn 4))
              have q5 : IntKind.i64.wrap (m 5 : Int) = m 5 := wrap_i64 (nat64 (hnn 5))
              have q6 : IntKind.i64.wrap (m 6 : Int) = m 6 := wrap_i64 (nat64 (hnn 6))
              have q7 : IntKind.i64.wrap (m 7 : Int) = m 7 := wrap_i64 (nat64 (hnn 7))
              have q8 : IntKind.i64.wrap (m 8 : Int) = m 8 := wrap_i64 (nat64 (hnn 8))
              have q9 : IntKind.i64.wrap (m 9 : Int) = m 9 := wrap_i64 (nat64 (hnn 9))
              generalize m 0 = m0 at HF0 hK HE
              generalize m 1 = m1 at HF1 hK HE
              generalize m 2 = m2 at HF2 hK HE
              generalize m 3 = m3 at HF3 hK HE
              generalize m 4 = m4 at q4 hK HE
              generalize m 5 = m5 at q5 hK HE
              generalize m 6 = m6 at q6 hK HE
              generalize m 7 = m7 at q7 hK HE
              generalize m 8 = m8 at q8 hK HE
              generalize m 9 = m9 at q9 hK HE
              generalize unsN m0 = a0 at HF0 HE
              generalize unsN m1 = a1 at HF1 HE
              generalize unsN m2 = a2 at HF2 HE
              generalize unsN m3 = a3 at HF3 HE
              clear hcc hnn hs1 hs2 hs3 hs4
              have hi0 : (0 : Int) < (L2 : Int) := by omega
              have hj0 : 0 < L2 := by omega
              have hi1 : (1 : Int) < (L2 : Int) := by omega
              have hj1 : 1 < L2 := by omega
              have hi2 : (2 : Int) < (L2 : Int) := by omega
              have hj2 : 2 < L2 := by omega
              have hi3 : (3 : Int) < (L2 : Int) := by omega
              have hj3 : 3 < L2 := by omega
              have hi4 : (4 : Int) < (L2 : Int) := by omega
              have hj4 : 4 < L2 := by omega
              have hi5 : (5 : Int) < (L2 : Int) := by omega
              have hj5 : 5 < L2 := by omega
              have hi6 : (6 : Int) < (L2 : Int) := by omega
              have hj6 : 6 < L2 := by omega
              have hi7 : (7 : Int) < (L2 : Int) := by omega
              have hj7 : 7 < L2 := by omega
              have hi8 : (8 : Int) < (L2 : Int) := by omega
              have hj8 : 8 < L2 := by omega
              have hi9 : (9 : Int) < (L2 : Int) := by omega
              have hj9 : 9 < L2 := by omega
              refine wp_region_noPanic ?_
              refine wp_region_held_drew (S := (fun W => Below wq.heap.size wq W)) (by kernel_rfl) (Ev.bt HW2.out (Ev.bd1 (Ev.br _))) (fun hHeld => ?_)
              have HA4 := hid (HA2.out.below (Ev.bd1 (Ev.br _)))
              have HR4 := hid (HR2.out.below (Ev.bd1 (Ev.br _)))
              have HB4 := hid (Ev.bt HB2.out (Ev.bd1 (Ev.br _)))
              have HV4 := hid (Ev.bt HW2.out (Ev.bd1 (Ev.br _)))
              generalize World.drew wr = wz at HA4 HR4 HB4 HV4 hHeld ⊢
              (refine takeW (i := 0) (d := 63) (v := ?_) rfl rfl (by kernel_rfl) (by kernel_rfl) (by kernel_rfl) (fun _ _ _ h => h) (by rfl) ?_ (by assumption) ?_)
              rotate_left
              · (intro W hSW; go_simp; (try with_reducible rfl))
              simp only [Act.put, List.setIfInBounds_toArray, List.set_cons_zero, List.set_cons_succ]
              (refine takeW (i := 1) (d := 64) (v := ?_) rfl rfl (by kernel_rfl) (by kernel_rfl) (by kernel_rfl) (fun _ _ _ h => h) (by rfl) ?_ (by assumption) ?_)
              rotate_left
              · (intro W hSW; go_simp; (try with_reducible rfl))
              simp only [Act.put, List.setIfInBounds_toArray, List.set_cons_zero, List.set_cons_succ]
              (refine takeW (i := 2) (d := 65) (v := ?_) rfl rfl (by kernel_rfl) (by kernel_rfl) (by kernel_rfl) (fun _ _ _ h => h) (by rfl) ?_ (by assumption) ?_)
              rotate_left
              · (intro W hSW; go_simp; (try with_reducible rfl))
              simp only [Act.put, List.setIfInBounds_toArray, List.set_cons_zero, List.set_cons_succ]
              (refine takeW (i := 3) (d := 66) (v := ?_) rfl rfl (by kernel_rfl) (by kernel_rfl) (by kernel_rfl) (fun _ _ _ h => h) (by rfl) ?_ (by assumption) ?_)
              rotate_left
              · (intro W hSW; have hSW2 := hK.out W hSW; go_simp; (try with_reducible rfl))
              simp only [Act.put, List.setIfInBounds_toArray, List.set_cons_zero, List.set_cons_succ]
              (refine takeW (i := 5) (d := 68) (v := ?_) rfl rfl (by kernel_rfl) (by kernel_rfl) (by kernel_rfl) (fun _ _ _ h => h) (by rfl) ?_ (by assumption) ?_)
              rotate_left
              · (intro W hSW; go_simp; (try with_reducible rfl))
              simp only [Act.put, List.setIfInBounds_toArray, List.set_cons_zero, List.set_cons_succ]
              (refine takeW (i := 6) (d := 69) (v := ?_) rfl rfl (by kernel_rfl) (by kernel_rfl) (by kernel_rfl) (fun _ _ _ h => h) (by rfl) ?_ (by assumption) ?_)
              rotate_left
              · (intro W hSW; go_simp; (try with_reducible rfl))
              simp only [Act.put, List.setIfInBounds_toArray, List.set_cons_zero, List.set_cons_succ]
              (refine takeW (i := 7) (d := 70) (v := ?_) rfl rfl (by kernel_rfl) (by kernel_rfl) (by kernel_rfl) (fun _ _ _ h => h) (by rfl) ?_ (by assumption) ?_)
              rotate_left
              · (intro W hSW; have hSW2 := hK.out W hSW; go_simp; (try with_reducible rfl))
              simp only [Act.put, List.setIfInBounds_toArray, List.set_cons_zero, List.set_cons_succ]
              (refine takeW (i := 10) (d := 73) (v := ?_) rfl rfl (by kernel_rfl) (by kernel_rfl) (by kernel_rfl) (fun _ _ _ h => h) (by rfl) ?_ (by assumption) ?_)
              rotate_left
              · (intro W hSW; go_simp; (try with_reducible rfl))
              simp only [Act.put, List.setIfInBounds_toArray, List.set_cons_zero, List.set_cons_succ]
              (refine takeW (i := 11) (d := 74) (v := ?_) rfl rfl (by kernel_rfl) (by kernel_rfl) (by kernel_rfl) (fun _ _ _ h => h) (by rfl) ?_ (by assumption) ?_)
              rotate_left
              · (intro W hSW; go_simp; (try with_reducible rfl))
              simp only [Act.put, List.setIfInBounds_toArray, List.set_cons_zero, List.set_cons_succ]
              (refine takeW (i := 12) (d := 75) (v := ?_) rfl rfl (by kernel_rfl) (by kernel_rfl) (by kernel_rfl) (fun _ _ _ h => h) (by rfl) ?_ (by assumption) ?_)
              rotate_left
              · (intro W hSW; have hSW2 := hK.out W hSW; go_simp; (try with_reducible rfl))
              simp only [Act.put, List.setIfInBounds_toArray, List.set_cons_zero, List.set_cons_succ]
              (refine takeW (i := 14) (d := 77) (v := ?_) rfl rfl (by kernel_rfl) (by kernel_rfl) (by kernel_rfl) (fun _ _ _ h => h) (by rfl) ?_ (by assumption) ?_)
              rotate_left
              · (intro W hSW; go_simp; (try with_reducible rfl))
              simp only [Act.put, List.setIfInBounds_toArray, List.set_cons_zero, List.set_cons_succ]
              (refine takeW (i := 15) (d := 78) (v := ?_) rfl rfl (by kernel_rfl) (by kernel_rfl) (by kernel_rfl) (fun _ _ _ h => h) (by rfl) ?_ (by assumption) ?_)
              rotate_left
              · (intro W hSW; go_simp; (try with_reducible rfl))
              simp only [Act.put, List.setIfInBounds_toArray, List.set_cons_zero, List.set_cons_succ]
              (refine takeW (i := 16) (d := 79) (v := ?_) rfl rfl (by kernel_rfl) (by kernel_rfl) (by kernel_rfl) (fun _ _ _ h => h) (by rfl) ?_ (by assumption) ?_)
              rotate_left
              · (intro W hSW; have hSW2 := hK.out W hSW; go_simp; (try with_reducible rfl))
              simp only [Act.put, List.setIfInBounds_toArray, List.set_cons_zero, List.set_cons_succ]
              (refine takeW (i := 19) (d := 82) (v := ?_) rfl rfl (by kernel_rfl) (by kernel_rfl) (by kernel_rfl) (fun _ _ _ h => h) (by rfl) ?_ (by assumption) ?_)
              rotate_left
              · (intro W hSW; go_simp; (try with_reducible rfl))
              simp only [Act.put, List.setIfInBounds_toArray, List.set_cons_zero, List.set_cons_succ]
              (refine takeW (i := 20) (d := 83) (v := ?_) rfl rfl (by kernel_rfl) (by kernel_rfl) (by kernel_rfl) (fun _ _ _ h => h) (by rfl) ?_ (by assumption) ?_)
              rotate_left
              · (intro W hSW; go_simp; (try with_reducible rfl))
              simp only [Act.put, List.setIfInBounds_toArray, List.set_cons_zero, List.set_cons_succ]
              (refine takeW (i := 21) (d := 84) (v := ?_) rfl rfl (by kernel_rfl) (by kernel_rfl) (by kernel_rfl) (fun _ _ _ h => h) (by rfl) ?_ (by assumption) ?_)
              rotate_left
              · (intro W hSW; have hSW2 := hK.out W hSW; go_simp; (try with_reducible rfl))
              simp only [Act.put, List.setIfInBounds_toArray, List.set_cons_zero, List.set_cons_succ]
              (refine takeW (i := 22) (d := 85) (v := ?_) rfl rfl (by kernel_rfl) (by kernel_rfl) (by kernel_rfl) (fun _ _ _ h => h) (by rfl) ?_ (by assumption) ?_)
              rotate_left
              · (intro W hSW; go_simp; (try with_reducible rfl))
              simp only [Act.put, List.setIfInBounds_toArray, List.set_cons_zero, List.set_cons_succ]
              (refine takeW (i := 23) (d := 86) (v := ?_) rfl rfl (by kernel_rfl) (by kernel_rfl) (by kernel_rfl) (fun _ _ _ h => h) (by rfl) ?_ (by assumption) ?_)
              rotate_left
              · (intro W hSW; go_simp; (try with_reducible rfl))
              simp only [Act.put, List.setIfInBounds_toArray, List.set_cons_zero, List.set_cons_succ]
              (refine takeW (i := 24) (d := 87) (v := ?_) rfl rfl (by kernel_rfl) (by kernel_rfl) (by kernel_rfl) (fun _ _ _ h => h) (by rfl) ?_ (by assumption) ?_)
              rotate_left
              · (intro W hSW; go_simp; (try with_reducible rfl))
              simp only [Act.put, List.setIfInBounds_toArray, List.set_cons_zero, List.set_cons_succ]
              (refine takeW (i := 25) (d := 88) (v := ?_) rfl rfl (by kernel_rfl) (by kernel_rfl) (by kernel_rfl) (fun _ _ _ h => h) (by rfl) ?_ (by assumption) ?_)
              rotate_left
              · (intro W hSW; have hSW2 := hK.out W hSW; go_simp; (try with_reducible rfl))
              simp only [Act.put, List.setIfInBounds_toArray, List.set_cons_zero, List.set_cons_succ]
              (refine takeW (i := 26) (d := 89) (v := ?_) rfl rfl (by kernel_rfl) (by kernel_rfl) (by kernel_rfl) (fun _ _ _ h => h) (by rfl) ?_ (by assumption) ?_)
              rotate_left
              · (intro W hSW; go_simp; (try with_reducible rfl))
              simp only [Act.put, List.setIfInBounds_toArray, List.set_cons_zero, List.set_cons_succ]
              (refine takeW (i := 27) (d := 90) (v := ?_) rfl rfl (by kernel_rfl) (by kernel_rfl) (by kernel_rfl) (fun _ _ _ h => h) (by rfl) ?_ (by assumption) ?_)
              rotate_left
              · (intro W hSW; go_simp; (try with_reducible rfl))
              simp only [Act.put, List.setIfInBounds_toArray, List.set_cons_zero, List.set_cons_succ]
              (refine takeW (i := 28) (d := 91) (v := ?_) rfl rfl (by kernel_rfl) (by kernel_rfl) (by kernel_rfl) (fun _ _ _ h => h) (by rfl) ?_ (by assumption) ?_)
              rotate_left
              · (intro W hSW; go_simp; (try with_reducible rfl))
              simp only [Act.put, List.setIfInBounds_toArray, List.set_cons_zero, List.set_cons_succ]
              (refine takeW (i := 29) (d := 92) (v := ?_) rfl rfl (by kernel_rfl) (by kernel_rfl) (by kernel_rfl) (fun _ _ _ h => h) (by rfl) ?_ (by assumption) ?_)
              rotate_left
              · (intro W hSW; have hSW2 := hK.out W hSW; go_simp; (try with_reducible rfl))
              simp only [Act.put, List.setIfInBounds_toArray, List.set_cons_zero, List.set_cons_succ]
              (refine takeW (i := 30) (d := 93) (v := ?_) rfl rfl (by kernel_rfl) (by kernel_rfl) (by kernel_rfl) (fun _ _ _ h => h) (by rfl) ?_ (by assumption) ?_)
              rotate_left
              · (intro W hSW; go_simp; (try with_reducible rfl))
              simp only [Act.put, List.setIfInBounds_toArray, List.set_cons_zero, List.set_cons_succ]
              (refine takeW (i := 31) (d := 94) (v := ?_) rfl rfl (by kernel_rfl) (by kernel_rfl) (by kernel_rfl) (fun _ _ _ h => h) (by rfl) ?_ (by assumption) ?_)
              rotate_left
              · (intro W hSW; go_simp; (try with_reducible rfl))
              simp only [Act.put, List.setIfInBounds_toArray, List.set_cons_zero, List.set_cons_succ]
              (refine takeW (i := 32) (d := 95) (v := ?_) rfl rfl (by kernel_rfl) (by kernel_rfl) (by kernel_rfl) (fun _ _ _ h => h) (by rfl) ?_ (by assumption) ?_)
              rotate_left
              · (intro W hSW; go_simp; (try with_reducible rfl))
              simp only [Act.put, List.setIfInBounds_toArray, List.set_cons_zero, List.set_cons_succ]
              (refine takeW (i := 33) (d := 96) (v := ?_) rfl rfl (by kernel_rfl) (by kernel_rfl) (by kernel_rfl) (fun _ _ _ h => h) (by rfl) ?_ (by assumption) ?_)
              rotate_left
              · (intro W hSW; have hSW2 := hK.out W hSW; go_simp; (try with_reducible rfl))
              simp only [Act.put, List.setIfInBounds_toArray, List.set_cons_zero, List.set_cons_succ]
              (refine takeW (i := 34) (d := 97) (v := ?_) rfl rfl (by kernel_rfl) (by kernel_rfl) (by kernel_rfl) (fun _ _ _ h => h) (by rfl) ?_ (by assumption) ?_)
              rotate_left
              · (intro W hSW; go_simp; (try with_reducible rfl))
              simp only [Act.put, List.setIfInBounds_toArray, List.set_cons_zero, List.set_cons_succ]
              (refine takeW (i := 35) (d := 98) (v := ?_) rfl rfl (by kernel_rfl) (by kernel_rfl) (by kernel_rfl) (fun _ _ _ h => h) (by rfl) ?_ (by assumption) ?_)
              rotate_left
              · (intro W hSW; go_simp; (try with_reducible rfl))
              simp only [Act.put, List.setIfInBounds_toArray, List.set_cons_zero, List.set_cons_succ]
              (refine takeW (i := 36) (d := 99) (v := ?_) rfl rfl (by kernel_rfl) (by kernel_rfl) (by kernel_rfl) (fun _ _ _ h => h) (by rfl) ?_ (by assumption) ?_)
              rotate_left
              · (intro W hSW; go_simp; (try with_reducible rfl))
              simp only [Act.put, List.setIfInBounds_toArray, List.set_cons_zero, List.set_cons_succ]
              (refine takeW (i := 37) (d := 100) (v := ?_) rfl rfl (by kernel_rfl) (by kernel_rfl) (by kernel_rfl) (fun _ _ _ h => h) (by rfl) ?_ (by assumption) ?_)
              rotate_left
              · (intro W hSW; have hSW2 := hK.out W hSW; go_simp; (try with_reducible rfl))
              simp only [Act.put, List.setIfInBounds_toArray, List.set_cons_zero, List.set_cons_succ]
              (refine takeW (i := 38) (d := 101) (v := ?_) rfl rfl (by kernel_rfl) (by kernel_rfl) (by kernel_rfl) (fun _ _ _ h => h) (by rfl) ?_ (by assumption) ?_)
              rotate_left
              · (intro W hSW; go_simp; (try with_reducible rfl))
              simp only [Act.put, List.setIfInBounds_toArray, List.set_cons_zero, List.set_cons_succ]
              (refine takeW (i := 39) (d := 102) (v := ?_) rfl rfl (by kernel_rfl) (by kernel_rfl) (by kernel_rfl) (fun _ _ _ h => h) (by rfl) ?_ (by assumption) ?_)
              rotate_left
              · (intro W hSW; go_simp; (try with_reducible rfl))
              simp only [Act.put, List.setIfInBounds_toArray, List.set_cons_zero, List.set_cons_succ]
              (refine takeW (i := 40) (d := 103) (v := ?_) rfl rfl (by kernel_rfl) (by kernel_rfl) (by kernel_rfl) (fun _ _ _ h => h) (by rfl) ?_ (by assumption) ?_)
              rotate_left
              · (intro W hSW; go_simp; (try with_reducible rfl))
              simp only [Act.put, List.setIfInBounds_toArray, List.set_cons_zero, List.set_cons_succ]
              (refine takeW (i := 41) (d := 104) (v := ?_) rfl rfl (by kernel_rfl) (by kernel_rfl) (by kernel_rfl) (fun _ _ _ h => h) (by rfl) ?_ (by assumption) ?_)
              rotate_left
              · (intro W hSW; have hSW2 := hK.out W hSW; go_simp; (try with_reducible rfl))
              simp only [Act.put, List.setIfInBounds_toArray, List.set_cons_zero, List.set_cons_succ]
              (refine takeW (i := 42) (d := 105) (v := ?_) rfl rfl (by kernel_rfl) (by kernel_rfl) (by kernel_rfl) (fun _ _ _ h => h) (by rfl) ?_ (by assumption) ?_)
              rotate_left
              · (intro W hSW; go_simp; (try with_reducible rfl))
              simp only [Act.put, List.setIfInBounds_toArray, List.set_cons_zero, List.set_cons_succ]
              (refine takeW (i := 44) (d := 107) (v := ?_) rfl rfl (by kernel_rfl) (by kernel_rfl) (by kernel_rfl) (fun _ _ _ h => h) (by rfl) ?_ (by assumption) ?_)
              rotate_left
              · (intro W hSW; go_simp; (try with_reducible rfl))
              simp only [Act.put, List.setIfInBounds_toArray, List.set_cons_zero, List.set_cons_succ]
              refine wpAnyH_ready (rs := [4]) (by kernel_rfl) (by simp) ?_
              refine AllReadyH.cons (i := 4) rfl (fun K hKK => ?_) AllReadyH.nil
              go_simp
              ((with_reducible refine (HF0 _).mono ?_); rintro e u4 ⟨rfl, rfl⟩)
              (try dsimp only)
              refine hKK.out _ _ HV4.out (fun hHeld => ?_)
              clear hKK K
              (try simp only [Act.put, List.setIfInBounds_toArray, List.set_cons_zero, List.set_cons_succ])
              refine wpAnyH_ready (rs := [8]) (by kernel_rfl) (by simp) ?_
              refine AllReadyH.cons (i := 8) rfl (fun K hKK => ?_) AllReadyH.nil
              go_simp
              ((with_reducible refine (HF1 _).mono ?_); rintro e u8 ⟨rfl, rfl⟩)
              (try dsimp only)
              refine hKK.out _ _ HV4.out (fun hHeld => ?_)
              clear hKK K
              (try simp only [Act.put, List.setIfInBounds_toArray, List.set_cons_zero, List.set_cons_succ])
              (refine takeW (i := 9) (d := 72) (v := ?_) rfl rfl (by kernel_rfl) (by kernel_rfl) (by kernel_rfl) (fun _ _ _ h => h) (by rfl) ?_ (by assumption) ?_)
              rotate_left
              · (intro W hSW; go_simp; (try with_reducible rfl))
              simp only [Act.put, List.setIfInBounds_toArray, List.set_cons_zero, List.set_cons_succ]
              refine wpAnyH_ready (rs := [13]) (by kernel_rfl) (by simp) ?_
              refine AllReadyH.cons (i := 13) rfl (fun K hKK => ?_) AllReadyH.nil
              go_simp
              ((with_reducible refine (HF2 _).mono ?_); rintro e u13 ⟨rfl, rfl⟩)
              (try dsimp only)
              refine hKK.out _ _ HV4.out (fun hHeld => ?_)
              clear hKK K
              (try simp only [Act.put, List.setIfInBounds_toArray, List.set_cons_zero, List.set_cons_succ])
              refine wpAnyH_ready (rs := [17]) (by kernel_rfl) (by simp) ?_
              refine AllReadyH.cons (i := 17) rfl (fun K hKK => ?_) AllReadyH.nil
              go_simp
              ((with_reducible refine (HF3 _).mono ?_); rintro e u17 ⟨rfl, rfl⟩)
              (try dsimp only)
              refine hKK.out _ _ HV4.out (fun hHeld => ?_)
              clear hKK K
              (try simp only [Act.put, List.setIfInBounds_toArray, List.set_cons_zero, List.set_cons_succ])
              (refine takeW (i := 18) (d := 81) (v := ?_) rfl rfl (by kernel_rfl) (by kernel_rfl) (by kernel_rfl) (fun _ _ _ h => h) (by rfl) ?_ (by assumption) ?_)
              rotate_left
              · (intro W hSW; go_simp; (try with_reducible rfl))
              simp only [Act.put, List.setIfInBounds_toArray, List.set_cons_zero, List.set_cons_succ]
              (refine takeW (i := 43) (d := 106) (v := ?_) rfl rfl (by kernel_rfl) (by kernel_rfl) (by kernel_rfl) (fun _ _ _ h => h) (by rfl) ?_ (by assumption) ?_)
              rotate_left
              · (intro W hSW; go_simp; (try with_reducible rfl))
              simp only [Act.put, List.setIfInBounds_toArray, List.set_cons_zero, List.set_cons_succ]
              (refine takeW (i := 45) (d := 108) (v := ?_) rfl rfl (by kernel_rfl) (by kernel_rfl) (by kernel_rfl) (fun _ _ _ h => h) (by rfl) ?_ (by assumption) ?_)
              rotate_left
              · (intro W hSW; go_simp; (try with_reducible rfl))
              simp only [Act.put, List.setIfInBounds_toArray, List.set_cons_zero, List.set_cons_succ]
              refine wpAnyH_ready (rs := [46]) (by kernel_rfl) (by simp) ?_
              refine AllReadyH.cons (i := 46) rfl (fun K hKK => ?_) AllReadyH.nil
              rw [if_pos (by rfl)]
              refine wp_store_at 27 _ _ rfl wq.heap.size (4 + k * 10) (plC (⟨a0, a1, a2, a3, (m4 : Int), (m5 : Int), (m6 : Int), (m7 : Int), (m8 : Int), (m9 : Int)⟩ : Pl)) rfl rfl 33 _ HA4.out (by kernel_rfl) (by show 4 + k * 10 + 10 ≤ 60; omega) rfl ?_
              change K (Act.put _ none undef) _
              generalize hW : World.setRow _ _ _ = w5
              have HA5 := hid (at_setP hlt (⟨a0, a1, a2, a3, (m4 : Int), (m5 : Int), (m6 : Int), (m7 : Int), (m8 : Int), (m9 : Int)⟩ : Pl) HA4.out hW)
              have HR5 : Hid (At w5 w.heap.size (stC zeroS).toArray 33) := hid (by rw [← hW]; exact at_row_far HR4.out (Nat.ne_of_lt hlw) _)
              have HB5 : Hid (Below w.heap.size w w5) := hid (by rw [← hW]; exact below_row HB4.out (Nat.le_of_lt hlw) _)
              have HW5 : Hid (Below wq.heap.size wq w5) := hid (by rw [← hW]; exact below_row HV4.out (Nat.le_refl _) _)
              clear hW
              refine hKK.out _ _ HW5.out (fun hHeld => ?_)
              clear hKK K
              (try simp only [Act.put])
              refine wpAnyH_done (by kernel_rfl) ?_ _
              refine NoPanic.normal ?_
              rw [← HE.out] at HA5
              clear q4 q5 q6 q7 q8 q9 hK hHeld HF0 HF1 HF2 HF3 HA2 HR2 HB2 HW2
              go_wp2_with fail
              go_roundw
              case rel => first | exact ⟨k + 1, setP S k p, hlt, by go_num, HA5.out, hid (HT.out.setP k HPt.out), HR5.out, HB5.out, HW5.out, hid (fun s h => by rw [HS.out s h, HPs.out s h]; rfl)⟩ | ((repeat apply Exists.intro); exact ⟨⟨k + 1, setP S k p, hlt, by go_num, HA5.out, hid (HT.out.setP k HPt.out), HR5.out, HB5.out, HW5.out, hid (fun s h => by rw [HS.out s h, HPs.out s h]; rfl)⟩, rfl⟩)
              case measure => simp [intOf]; omega
            · have hk2 : k = 2 := by omega
              subst hk2
              have c24 : wr.cell? ⟨b, o + 24, none⟩ = some (.int .u64 (nt l 24 : Int)) := (HW2.out.cell (p := ⟨b, o + 24, none⟩) hbw).trans (HC.out 24 (by have := HLn.out; omega))
              have hn24 := nt_bd HM.out 24
              have HS2 : Hid (∀ s, unpR σ = some s → S = preS s 0 ∧ l.drop 25 = remN s 6 ∧ nt l 24 = bitsN s) := hid (fun s h => ⟨by rw [HS.out s h]; rfl, by rw [HG.out s h]; rfl, by rw [HG.out s h]; rfl⟩)
              have HN25 := hid (HNs.out.cut 25 cap (by have := HLn.out; omega) (by have := HLn.out; omega))
              have HM25 := hid (drop_bd HM.out 25)
              have HL25 : Hid ((l.drop 25).length = L - 25) := hid (by rw [List.length_drop, HLn.out])
              generalize nt l 24 = n24 at c24 hn24 HS2
              generalize l.drop 25 = l3 at HS2 HN25 HM25 HL25
              clear HS HG HC HNs HM HLn
              have ht24 : (24 : Int) < (L : Int) := by omega
              have hu24 : 24 < L := by omega
              go_upto_region 16 with fail
              have hv1 : (25 : Int) ≤ (L : Int) := by omega
              have hv2 : (25 : Int) ≤ (cap : Int) := by omega
              clear c24
              go_cut [4] (fun s4 wx => ∃ ao3, s4 = .slice ao3 (L - 25) (cap - 25) ∧ wx = wr ∧ Hid (Ns wq ao3 l3))
              case first =>
                by_cases hcap : cap = 25
                · have hL9 : L = 25 := by omega
                  subst hcap
                  subst hL9
                  go_wp2_with fail
                  go_meet
                  case rel => exact ⟨_, rfl, rfl, hid (by simpa using HN25.out)⟩
                · have hc26 : 25 < cap := by omega
                  have hc27 : ¬ (cap - 25 = 0) := by omega
                  go_wp2_with fail
                  go_meet
                  case rel => exact ⟨_, rfl, rfl, hid (by have h := HN25.out; rw [if_neg hcap] at h; simpa [Addr.add] using h)⟩
              case rest =>
                obtain ⟨ao3, rfl, hwc, HNa⟩ := hcut
                subst hwc
                clear HN25
                go_wp2_with fail
                go_loopw [4, 10, 11] (fun lv bv iv w3 => ∃ (k : Nat) (S3 : St) (lk : List Nat) (nk : Nat) (aok : Option Addr) (Lk ck : Nat), k ≤ 6 ∧ iv = .int .i64 k ∧ bv = .int .u64 nk ∧ nk ≤ 4294967295 ∧ lv = .slice aok Lk ck ∧ Hid (lk.length = Lk) ∧ Lk ≤ ck ∧ ck ≤ 9223372036854775807 ∧ Hid (Ns wq aok lk) ∧ Hid (∀ n, n ∈ lk → n ≤ 4294967295) ∧ At w3 wq.heap.size (stC S3).toArray 33 ∧ Hid (Ty S3) ∧ At w3 w.heap.size (stC zeroS).toArray 33 ∧ Below w.heap.size w w3 ∧ Below wq.heap.size wq w3 ∧ Hid (∀ s, unpR σ = some s → S3 = preS s k ∧ lk = remN s (6 - k) ∧ nk = bitsN s / 2 ^ k)) (fun _ _ iv _ => 6 - (intOf iv).toNat)
                case atStart => exact ⟨0, S, l3, n24, ao3, L - 25, cap - 25, by decide, rfl, rfl, hn24, rfl, HL25, by omega, by omega, HNa, HM25, HA2.out, HT, HR2.out, HB2.out, HW2.out, hid (fun s h => by obtain ⟨a, b, c⟩ := HS2.out s h; exact ⟨a, b, by rw [c]; simp⟩)⟩
                case round =>
                  obtain ⟨k, S3, lk, nk, aok, Lk, ck, hk, rfl, rfl, hnk, rfl, HLk, hck, hcm3, HNk, HMk, hA, HT3, hR, hB, hW, HS3⟩ := hrel
                  clear HA2 HR2 HB2 HW2 HS2 HNa HM25 HL25 hn24 HT
                  have HA2 := hid hA; have HR2 := hid hR; have HB2 := hid hB; have HW2 := hid hW
                  clear hA hR hB hW
                  by_cases hlt : k < 6
                  · have hk1 : (k : Int) < 6 := by omega
                    have hk0 : (0 : Int) ≤ (k : Int) := by omega
                    have e2 : nk % 2 = 0 ∨ nk % 2 = 1 := by omega
                    rcases e2 with e2 | e2
                    · have hb : ((nk : Int) % 2 == 1) = false := by simp; omega
                      have HS4 : Hid (∀ s, unpR σ = some s → S3 = preS s (k + 1) ∧ lk = remN s (6 - (k + 1)) ∧ nk / 2 = bitsN s / 2 ^ (k + 1)) := hid (fun s h => by
                        obtain ⟨a, b, c⟩ := HS3.out s h
                        have hz : shS s k = zeroB := bit_zero (by rw [← bits_at s k hlt, ← c]; exact e2)
                        refine ⟨by rw [a, pre_free hlt hz], by rw [b, rem_next hlt, hz]; rfl, by rw [c, Nat.div_div_eq_div_mul, Nat.pow_succ]⟩)
                      clear e2 HS3
                      go_wp2_with fail
                      go_roundw
                      case rel => first | exact ⟨k + 1, S3, lk, nk / 2, aok, Lk, ck, hlt, by go_num, by go_num, by omega, rfl, HLk, hck, hcm3, HNk, HMk, HA2.out, HT3, HR2.out, HB2.out, HW2.out, HS4⟩ | ((repeat apply Exists.intro); exact ⟨⟨k + 1, S3, lk, nk / 2, aok, Lk, ck, hlt, by go_num, by go_num, by omega, rfl, HLk, hck, hcm3, HNk, HMk, HA2.out, HT3, HR2.out, HB2.out, HW2.out, HS4⟩, rfl⟩)
                      case measure => simp [intOf]; omega
                    · have hb : ((nk : Int) % 2 == 1) = true := by simp; omega
                      by_cases h6 : Lk < 6
                      · have HV := hid (runp_none (none_of fun s h => by
                          obtain ⟨a, b, c⟩ := HS3.out s h
                          have hz : shS s k ≠ zeroB := bit_one (by rw [← bits_at s k hlt, ← c]; exact e2)
                          have hl := congrArg List.length b
                          rw [HLk.out, rem_next hlt, List.length_append, bu_len hz] at hl
                          omega))
                        have h6b : (Lk : Int) < 6 := by omega
                        clear HS3 HLk e2
                        go_wp2_with ((with_reducible show wpList _ _ _ _ _ _); refine wpList_store_at rfl 33 _ _ rfl w.heap.size 0 (stC zeroS) rfl rfl 33 _ HR2.out (by kernel_rfl) (by show 60 ≤ 60; decide) rfl ?_)
                        generalize hW : World.setRow _ _ _ = wz
                        have HS : Hid (At wz w.heap.size (stC zeroS).toArray 33) := hid (by rw [← hW]; exact at_row HR2.out _)
                        have HB5 : Hid (Below w.heap.size w wz) := hid (by rw [← hW]; exact below_row HB2.out (Nat.le_refl _) _)
                        clear hW
                        refine bodyPost_ret (Gm.results_cell_tmp rfl _ _ w.heap.size 33 (stC zeroS).toArray (0, 0) _ rfl HS.out Try.underlying33 rfl (by kernel_rfl)) rfl ?_
                        exact ⟨by rw [HV.out]; rfl, HB5.out⟩
                      · obtain ⟨b3, o3, rfl, hb3, hc3⟩ := HNk.out.get (by rw [HLk.out]; omega)
                        have hL6 : 6 ≤ Lk := by omega
                        have hc6 : 6 ≤ ck := by omega
                        have hcc : ∀ j, j < 6 → ∀ W, Below wq.heap.size wq W → W.cell? ⟨b3, o3 + j, none⟩ = some (.int .u64 (nt lk j : Int)) := fun j hj W g => (g.cell (p := ⟨b3, o3 + j, none⟩) hb3).trans (hc3 j (by rw [HLk.out]; omega))
                        have hnn : ∀ j, nt lk j ≤ 4294967295 := fun j => nt_bd HMk.out j
                        have HPt : Hid (tpB (buOf lk)) := hid (buOf_ty HMk.out)
                        have HS4 : Hid (∀ s, unpR σ = some s → setS S3 k (buOf lk) = preS s (k + 1) ∧ lk.drop 6 = remN s (6 - (k + 1)) ∧ nk / 2 = bitsN s / 2 ^ (k + 1)) := hid (fun s h => by
                          obtain ⟨a, b, c⟩ := HS3.out s h
                          have hz : shS s k ≠ zeroB := bit_one (by rw [← bits_at s k hlt, ← c]; exact e2)
                          have hnb := (known h).nn.sh k
                          rw [rem_next hlt] at b
                          refine ⟨by rw [a, b, bu_of hnb hz, pre_next s hlt], by rw [b, List.drop_left' (bu_len hz)], by rw [c, Nat.div_div_eq_div_mul, Nat.pow_succ]⟩)
                        have HE : Hid (buOf lk = ⟨unsN (nt lk 0), unsN (nt lk 1), unsN (nt lk 2), unsN (nt lk 3), (nt lk 4 : Int), (nt lk 5 : Int)⟩) := hid rfl
                        have HN6 := hid (HNk.out.cut 6 ck (by rw [HLk.out]; omega) (by rw [HLk.out]; omega))
                        have HM6 := hid (drop_bd HMk.out 6)
                        have HL6 : Hid ((lk.drop 6).length = Lk - 6) := hid (by rw [List.length_drop, HLk.out])
                        clear HS3 HNk HMk HLk hc3 hb3 e2
                        generalize lk.drop 6 = l6 at HS4 HN6 HM6 HL6
                        generalize buOf lk = p at HPt HS4 HE
                        generalize nt lk = m at hcc hnn HE
                        have HF0 := fun W => fix_c (m 0) W (hnn 0)
                        have HF1 := fun W => fix_c (m 1) W (hnn 1)
                        have HF2 := fun W => fix_c (m 2) W (hnn 2)
                        have HF3 := fun W => fix_c (m 3) W (hnn 3)
                        have hK : Hid (∀ W, Below wq.heap.size wq W → W.cell? ⟨b3, o3, none⟩ = some (.int .u64 (m 0 : Int)) ∧ W.cell? ⟨b3, o3 + 1, none⟩ = some (.int .u64 (m 1 : Int)) ∧ W.cell? ⟨b3, o3 + 2, none⟩ = some (.int .u64 (m 2 : Int)) ∧ W.cell? ⟨b3, o3 + 3, none⟩ = some (.int .u64 (m 3 : Int)) ∧ W.cell? ⟨b3, o3 + 4, none⟩ = some (.int .u64 (m 4 : Int)) ∧ W.cell? ⟨b3, o3 + 5, none⟩ = some (.int .u64 (m 5 : Int))) := hid (fun W g2 => ⟨hcc 0 (by decide) W g2, hcc 1 (by decide) W g2, hcc 2 (by decide) W g2, hcc 3 (by decide) W g2, hcc 4 (by decide) W g2, hcc 5 (by decide) W g2⟩)
                        have q4 : IntKind.i64.wrap (m 4 : Int) = m 4 := wrap_i64 (nat64 (hnn 4))
                        have q5 : IntKind.i64.wrap (m 5 : Int) = m 5 := wrap_i64 (nat64 (hnn 5))
                        generalize m 0 = m0 at HF0 hK HE
                        generalize m 1 = m1 at HF1 hK HE
                        generalize m 2 = m2 at HF2 hK HE
                        generalize m 3 = m3 at HF3 hK HE
                        generalize m 4 = m4 at q4 hK HE
                        generalize m 5 = m5 at q5 hK HE
                        generalize unsN m0 = a0 at HF0 HE
                        generalize unsN m1 = a1 at HF1 HE
                        generalize unsN m2 = a2 at HF2 HE
                        generalize unsN m3 = a3 at HF3 HE
                        have h6b : ¬ ((Lk : Int) < 6) := by omega
                        clear hcc hnn h6
                        go_upto_region 23 with fail
                        have hj5 : 5 < Lk := by omega
                        have hj4 : 4 < Lk := by omega
                        have hj3 : 3 < Lk := by omega
                        have hj2 : 2 < Lk := by omega
                        have hj1 : 1 < Lk := by omega
                        have hj0 : 0 < Lk := by omega
                        have hi5 : (5 : Int) < (Lk : Int) := by omega
                        have hi4 : (4 : Int) < (Lk : Int) := by omega
                        have hi3 : (3 : Int) < (Lk : Int) := by omega
                        have hi2 : (2 : Int) < (Lk : Int) := by omega
                        have hi1 : (1 : Int) < (Lk : Int) := by omega
                        refine wp_region_noPanic ?_
                        refine wp_region_held_drew (S := (fun W => Below wq.heap.size wq W)) (by kernel_rfl) (Ev.bt HW2.out (Ev.bd1 (Ev.br _))) (fun hHeld => ?_)
                        have HA4 := hid (HA2.out.below (Ev.bd1 (Ev.br _)))
                        have HR4 := hid (HR2.out.below (Ev.bd1 (Ev.br _)))
                        have HB4 := hid (Ev.bt HB2.out (Ev.bd1 (Ev.br _)))
                        have HV4 := hid (Ev.bt HW2.out (Ev.bd1 (Ev.br _)))
                        generalize World.drew wr = wz at HA4 HR4 HB4 HV4 hHeld ⊢
                        (refine takeW (i := 0) (d := 125) (v := ?_) rfl rfl (by kernel_rfl) (by kernel_rfl) (by kernel_rfl) (fun _ _ _ h => h) (by rfl) ?_ (by assumption) ?_)
                        rotate_left
                        · (intro W hSW; go_simp; (try with_reducible rfl))
                        simp only [Act.put, List.setIfInBounds_toArray, List.set_cons_zero, List.set_cons_succ]
                        (refine takeW (i := 1) (d := 126) (v := ?_) rfl rfl (by kernel_rfl) (by kernel_rfl) (by kernel_rfl) (fun _ _ _ h => h) (by rfl) ?_ (by assumption) ?_)
                        rotate_left
                        · (intro W hSW; go_simp; (try with_reducible rfl))
                        simp only [Act.put, List.setIfInBounds_toArray, List.set_cons_zero, List.set_cons_succ]
                        (refine takeW (i := 2) (d := 127) (v := ?_) rfl rfl (by kernel_rfl) (by kernel_rfl) (by kernel_rfl) (fun _ _ _ h => h) (by rfl) ?_ (by assumption) ?_)
                        rotate_left
                        · (intro W hSW; go_simp; (try with_reducible rfl))
                        simp only [Act.put, List.setIfInBounds_toArray, List.set_cons_zero, List.set_cons_succ]
                        (refine takeW (i := 3) (d := 128) (v := ?_) rfl rfl (by kernel_rfl) (by kernel_rfl) (by kernel_rfl) (fun _ _ _ h => h) (by rfl) ?_ (by assumption) ?_)
                        rotate_left
                        · (intro W hSW; have hSW2 := hK.out W hSW; go_simp; (try with_reducible rfl))
                        simp only [Act.put, List.setIfInBounds_toArray, List.set_cons_zero, List.set_cons_succ]
                        (refine takeW (i := 5) (d := 130) (v := ?_) rfl rfl (by kernel_rfl) (by kernel_rfl) (by kernel_rfl) (fun _ _ _ h => h) (by rfl) ?_ (by assumption) ?_)
                        rotate_left
                        · (intro W hSW; go_simp; (try with_reducible rfl))
                        simp only [Act.put, List.setIfInBounds_toArray, List.set_cons_zero, List.set_cons_succ]
                        (refine takeW (i := 6) (d := 131) (v := ?_) rfl rfl (by kernel_rfl) (by kernel_rfl) (by kernel_rfl) (fun _ _ _ h => h) (by rfl) ?_ (by assumption) ?_)
                        rotate_left
                        · (intro W hSW; go_simp; (try with_reducible rfl))
                        simp only [Act.put, List.setIfInBounds_toArray, List.set_cons_zero, List.set_cons_succ]
                        (refine takeW (i := 7) (d := 132) (v := ?_) rfl rfl (by kernel_rfl) (by kernel_rfl) (by kernel_rfl) (fun _ _ _ h => h) (by rfl) ?_ (by assumption) ?_)
                        rotate_left
                        · (intro W hSW; have hSW2 := hK.out W hSW; go_simp; (try with_reducible rfl))
                        simp only [Act.put, List.setIfInBounds_toArray, List.set_cons_zero, List.set_cons_succ]
                        (refine takeW (i := 10) (d := 135) (v := ?_) rfl rfl (by kernel_rfl) (by kernel_rfl) (by kernel_rfl) (fun _ _ _ h => h) (by rfl) ?_ (by assumption) ?_)
                        rotate_left
                        · (intro W hSW; go_simp; (try with_reducible rfl))
                        simp only [Act.put, List.setIfInBounds_toArray, List.set_cons_zero, List.set_cons_succ]
                        (refine takeW (i := 11) (d := 136) (v := ?_) rfl rfl (by kernel_rfl) (by kernel_rfl) (by kernel_rfl) (fun _ _ _ h => h) (by rfl) ?_ (by assumption) ?_)
                        rotate_left
                        · (intro W hSW; go_simp; (try with_reducible rfl))
                        simp only [Act.put, List.setIfInBounds_toArray, List.set_cons_zero, List.set_cons_succ]
                        (refine takeW (i := 12) (d := 137) (v := ?_) rfl rfl (by kernel_rfl) (by kernel_rfl) (by kernel_rfl) (fun _ _ _ h => h) (by rfl) ?_ (by assumption) ?_)
                        rotate_left
                        · (intro W hSW; have hSW2 := hK.out W hSW; go_simp; (try with_reducible rfl))
                        simp only [Act.put, List.setIfInBounds_toArray, List.set_cons_zero, List.set_cons_succ]
                        (refine takeW (i := 14) (d := 139) (v := ?_) rfl rfl (by kernel_rfl) (by kernel_rfl) (by kernel_rfl) (fun _ _ _ h => h) (by rfl) ?_ (by assumption) ?_)
                        rotate_left
                        · (intro W hSW; go_simp; (try with_reducible rfl))
                        simp only [Act.put, List.setIfInBounds_toArray, List.set_cons_zero, List.set_cons_succ]
                        (refine takeW (i := 15) (d := 140) (v := ?_) rfl rfl (by kernel_rfl) (by kernel_rfl) (by kernel_rfl) (fun _ _ _ h => h) (by rfl) ?_ (by assumption) ?_)
                        rotate_left
                        · (intro W hSW; go_simp; (try with_reducible rfl))
                        simp only [Act.put, List.setIfInBounds_toArray, List.set_cons_zero, List.set_cons_succ]
                        (refine takeW (i := 16) (d := 141) (v := ?_) rfl rfl (by kernel_rfl) (by kernel_rfl) (by kernel_rfl) (fun _ _ _ h => h) (by rfl) ?_ (by assumption) ?_)
                        rotate_left
                        · (intro W hSW; have hSW2 := hK.out W hSW; go_simp; (try with_reducible rfl))
                        simp only [Act.put, List.setIfInBounds_toArray, List.set_cons_zero, List.set_cons_succ]
                        (refine takeW (i := 19) (d := 144) (v := ?_) rfl rfl (by kernel_rfl) (by kernel_rfl) (by kernel_rfl) (fun _ _ _ h => h) (by rfl) ?_ (by assumption) ?_)
                        rotate_left
                        · (intro W hSW; go_simp; (try with_reducible rfl))
                        simp only [Act.put, List.setIfInBounds_toArray, List.set_cons_zero, List.set_cons_succ]
                        (refine takeW (i := 20) (d := 145) (v := ?_) rfl rfl (by kernel_rfl) (by kernel_rfl) (by kernel_rfl) (fun _ _ _ h => h) (by rfl) ?_ (by assumption) ?_)
                        rotate_left
                        · (intro W hSW; go_simp; (try with_reducible rfl))
                        simp only [Act.put, List.setIfInBounds_toArray, List.set_cons_zero, List.set_cons_succ]
                        (refine takeW (i := 21) (d := 146) (v := ?_) rfl rfl (by kernel_rfl) (by kernel_rfl) (by kernel_rfl) (fun _ _ _ h => h) (by rfl) ?_ (by assumption) ?_)
                        rotate_left
                        · (intro W hSW; have hSW2 := hK.out W hSW; go_simp; (try with_reducible rfl))
                        simp only [Act.put, List.setIfInBounds_toArray, List.set_cons_zero, List.set_cons_succ]
                        (refine takeW (i := 22) (d := 147) (v := ?_) rfl rfl (by kernel_rfl) (by kernel_rfl) (by kernel_rfl) (fun _ _ _ h => h) (by rfl) ?_ (by assumption) ?_)
                        rotate_left
                        · (intro W hSW; go_simp; (try with_reducible rfl))
                        simp only [Act.put, List.setIfInBounds_toArray, List.set_cons_zero, List.set_cons_succ]
                        (refine takeW (i := 23) (d := 148) (v := ?_) rfl rfl (by kernel_rfl) (by kernel_rfl) (by kernel_rfl) (fun _ _ _ h => h) (by rfl) ?_ (by assumption) ?_)
                        rotate_left
                        · (intro W hSW; go_simp; (try with_reducible rfl))
                        simp only [Act.put, List.setIfInBounds_toArray, List.set_cons_zero, List.set_cons_succ]
                        (refine takeW (i := 24) (d := 149) (v := ?_) rfl rfl (by kernel_rfl) (by kernel_rfl) (by kernel_rfl) (fun _ _ _ h => h) (by rfl) ?_ (by assumption) ?_)
                        rotate_left
                        · (intro W hSW; go_simp; (try with_reducible rfl))
                        simp only [Act.put, List.setIfInBounds_toArray, List.set_cons_zero, List.set_cons_succ]
                        (refine takeW (i := 25) (d := 150) (v := ?_) rfl rfl (by kernel_rfl) (by kernel_rfl) (by kernel_rfl) (fun _ _ _ h => h) (by rfl) ?_ (by assumption) ?_)
                        rotate_left
                        · (intro W hSW; have hSW2 := hK.out W hSW; go_simp; (try with_reducible rfl))
                        simp only [Act.put, List.setIfInBounds_toArray, List.set_cons_zero, List.set_cons_succ]
                        (refine takeW (i := 26) (d := 151) (v := ?_) rfl rfl (by kernel_rfl) (by kernel_rfl) (by kernel_rfl) (fun _ _ _ h => h) (by rfl) ?_ (by assumption) ?_)
                        rotate_left
                        · (intro W hSW; go_simp; (try with_reducible rfl))
                        simp only [Act.put, List.setIfInBounds_toArray, List.set_cons_zero, List.set_cons_succ]
                        (refine takeW (i := 28) (d := 153) (v := ?_) rfl rfl (by kernel_rfl) (by kernel_rfl) (by kernel_rfl) (fun _ _ _ h => h) (by rfl) ?_ (by assumption) ?_)
                        rotate_left
                        · (intro W hSW; go_simp; (try with_reducible rfl))
                        simp only [Act.put, List.setIfInBounds_toArray, List.set_cons_zero, List.set_cons_succ]
                        refine wpAnyH_ready (rs := [4]) (by kernel_rfl) (by simp) ?_
                        refine AllReadyH.cons (i := 4) rfl (fun K hKK => ?_) AllReadyH.nil
                        go_simp
                        ((with_reducible refine (HF0 _).mono ?_); rintro e u4 ⟨rfl, rfl⟩)
                        (try dsimp only)
                        refine hKK.out _ _ HV4.out (fun hHeld => ?_)
                        clear hKK K
                        (try simp only [Act.put, List.setIfInBounds_toArray, List.set_cons_zero, List.set_cons_succ])
                        refine wpAnyH_ready (rs := [8]) (by kernel_rfl) (by simp) ?_
                        refine AllReadyH.cons (i := 8) rfl (fun K hKK => ?_) AllReadyH.nil
                        go_simp
                        ((with_reducible refine (HF1 _).mono ?_); rintro e u8 ⟨rfl, rfl⟩)
                        (try dsimp only)
                        refine hKK.out _ _ HV4.out (fun hHeld => ?_)
                        clear hKK K
                        (try simp only [Act.put, List.setIfInBounds_toArray, List.set_cons_zero, List.set_cons_succ])
                        (refine takeW (i := 9) (d := 134) (v := ?_) rfl rfl (by kernel_rfl) (by kernel_rfl) (by kernel_rfl) (fun _ _ _ h => h) (by rfl) ?_ (by assumption) ?_)
                        rotate_left
                        · (intro W hSW; go_simp; (try with_reducible rfl))
                        simp only [Act.put, List.setIfInBounds_toArray, List.set_cons_zero, List.set_cons_succ]
                        refine wpAnyH_ready (rs := [13]) (by kernel_rfl) (by simp) ?_
                        refine AllReadyH.cons (i := 13) rfl (fun K hKK => ?_) AllReadyH.nil
                        go_simp
                        ((with_reducible refine (HF2 _).mono ?_); rintro e u13 ⟨rfl, rfl⟩)
                        (try dsimp only)
                        refine hKK.out _ _ HV4.out (fun hHeld => ?_)
                        clear hKK K
                        (try simp only [Act.put, List.setIfInBounds_toArray, List.set_cons_zero, List.set_cons_succ])
                        refine wpAnyH_ready (rs := [17]) (by kernel_rfl) (by simp) ?_
                        refine AllReadyH.cons (i := 17) rfl (fun K hKK => ?_) AllReadyH.nil
                        go_simp
                        ((with_reducible refine (HF3 _).mono ?_); rintro e u17 ⟨rfl, rfl⟩)
                        (try dsimp only)
                        refine hKK.out _ _ HV4.out (fun hHeld => ?_)
                        clear hKK K
                        (try simp only [Act.put, List.setIfInBounds_toArray, List.set_cons_zero, List.set_cons_succ])
                        (refine takeW (i := 18) (d := 143) (v := ?_) rfl rfl (by kernel_rfl) (by kernel_rfl) (by kernel_rfl) (fun _ _ _ h => h) (by rfl) ?_ (by assumption) ?_)
                        rotate_left
                        · (intro W hSW; go_simp; (try with_reducible rfl))
                        simp only [Act.put, List.setIfInBounds_toArray, List.set_cons_zero, List.set_cons_succ]
                        (refine takeW (i := 27) (d := 152) (v := ?_) rfl rfl (by kernel_rfl) (by kernel_rfl) (by kernel_rfl) (fun _ _ _ h => h) (by rfl) ?_ (by assumption) ?_)
                        rotate_left
                        · (intro W hSW; go_simp; (try with_reducible rfl))
                        simp only [Act.put, List.setIfInBounds_toArray, List.set_cons_zero, List.set_cons_succ]
                        (refine takeW (i := 29) (d := 154) (v := ?_) rfl rfl (by kernel_rfl) (by kernel_rfl) (by kernel_rfl) (fun _ _ _ h => h) (by rfl) ?_ (by assumption) ?_)
                        rotate_left
                        · (intro W hSW; go_simp; (try with_reducible rfl))
                        simp only [Act.put, List.setIfInBounds_toArray, List.set_cons_zero, List.set_cons_succ]
                        refine wpAnyH_ready (rs := [30]) (by kernel_rfl) (by simp) ?_
                        refine AllReadyH.cons (i := 30) rfl (fun K hKK => ?_) AllReadyH.nil
                        rw [if_pos (by rfl)]
                        refine wp_store_at 30 _ _ rfl wq.heap.size (24 + k * 6) (buC (⟨a0, a1, a2, a3, (m4 : Int), (m5 : Int)⟩ : Bu)) rfl rfl 33 _ HA4.out (by kernel_rfl) (by show 24 + k * 6 + 6 ≤ 60; omega) rfl ?_
                        change K (Act.put _ none undef) _
                        generalize hW : World.setRow _ _ _ = w5
                        have HA5 := hid (at_setS hlt (⟨a0, a1, a2, a3, (m4 : Int), (m5 : Int)⟩ : Bu) HA4.out hW)
                        have HR5 : Hid (At w5 w.heap.size (stC zeroS).toArray 33) := hid (by rw [← hW]; exact at_row_far HR4.out (Nat.ne_of_lt hlw) _)
                        have HB5 : Hid (Below w.heap.size w w5) := hid (by rw [← hW]; exact below_row HB4.out (Nat.le_of_lt hlw) _)
                        have HW5 : Hid (Below wq.heap.size wq w5) := hid (by rw [← hW]; exact below_row HV4.out (Nat.le_refl _) _)
                        clear hW
                        refine hKK.out _ _ HW5.out (fun hHeld => ?_)
                        clear hKK K
                        (try simp only [Act.put])
                        refine wpAnyH_done (by kernel_rfl) ?_ _
                        refine NoPanic.normal ?_
                        rw [← HE.out] at HA5
                        clear q4 q5 hK hHeld HF0 HF1 HF2 HF3 HA2 HR2 HB2 HW2
                        have hv1 : (6 : Int) ≤ (Lk : Int) := by omega
                        have hv2 : (6 : Int) ≤ (ck : Int) := by omega
                        go_upto_region 24 with fail
                        go_cut [4] (fun s4 wx => ∃ ao6, s4 = .slice ao6 (Lk - 6) (ck - 6) ∧ wx = w5 ∧ Hid (Ns wq ao6 l6))
                        case first =>
                          by_cases hcap : ck = 6
                          · have hL9 : Lk = 6 := by omega
                            subst hcap
                            subst hL9
                            go_wp2_with fail
                            go_meet
                            case rel => exact ⟨_, rfl, rfl, hid (by simpa using HN6.out)⟩
                          · have hc26 : 6 < ck := by omega
                            have hc27 : ¬ (ck - 6 = 0) := by omega
                            go_wp2_with fail
                            go_meet
                            case rel => exact ⟨_, rfl, rfl, hid (by have h := HN6.out; rw [if_neg hcap] at h; simpa [Addr.add] using h)⟩
                        case rest =>
                          obtain ⟨ao6, rfl, hwc, HNb⟩ := hcut
                          subst hwc
                          clear HN6
                          go_wp2_with fail
                          go_roundw
                          case rel =>
                            refine ⟨_, _, _, _, ⟨k + 1, hlt, ?_, setS S3 k p, l6, nk / 2, ?_, by omega, ao6, Lk - 6, ck - 6, ?_, HL6, by omega, by omega, HNb, HM6, HA5.out, hid (HT3.out.setS k HPt.out), HR5.out, HB5.out, HW5.out, HS4⟩, rfl, rfl, rfl, rfl⟩
                            · go_num
                            · go_num
                            · rfl
                          case measure => simp [intOf]; omega
                  · have hk6 : k = 6 := by omega
                    subst hk6
                    have HS4 : Hid (∀ s, unpR σ = some s → S3 = s) := hid (fun s h => (HS3.out s h).1)
                    clear HS3 HNk HMk HLk
                    cases hr : rightS S3
                    · have HV := hid (runp_none (none_of fun s h => by
                        have e := HS4.out s h
                        rw [e, (known h).ok] at hr
                        exact Bool.noConfusion hr))
                      have HRi := fun W => rright_c S3 W
                      rw [hr] at HRi
                      clear hr HS4
                      go_upto_region 27 with (first
                        | ((with_reducible show wpList _ _ _ _ _ _); refine wpList_load_at rfl 33 _ rfl wq.heap.size 0 rfl 33 _ (stC S3) (0, 0) _ HA2.out Try.underlying33 rfl (by kernel_rfl) (stC_slf S3) ?_)
                        | (go_at_call 9; ((with_reducible refine (HRi _).mono ?_); rintro e w6 ⟨rfl, g6⟩; have HA6 := hid (HA2.out.below g6); have HR6 := hid (HR2.out.below g6); have HB6 := hid (Ev.bt HB2.out g6))))
                      go_wp2_with ((with_reducible show wpList _ _ _ _ _ _); refine wpList_store_at rfl 33 _ _ rfl w.heap.size 0 (stC zeroS) rfl rfl 33 _ HR6.out (by kernel_rfl) (by show 60 ≤ 60; decide) rfl ?_)
                      generalize hW : World.setRow _ _ _ = wz
                      have HS : Hid (At wz w.heap.size (stC zeroS).toArray 33) := hid (by rw [← hW]; exact at_row HR6.out _)
                      have HB5 : Hid (Below w.heap.size w wz) := hid (by rw [← hW]; exact below_row HB6.out (Nat.le_refl _) _)
                      clear hW
                      refine bodyPost_ret (Gm.results_cell_tmp rfl _ _ w.heap.size 33 (stC zeroS).toArray (0, 0) _ rfl HS.out Try.underlying33 rfl (by kernel_rfl)) rfl ?_
                      exact ⟨by rw [HV.out]; rfl, HB5.out⟩
                    · have HRi := fun W => rright_c S3 W
                      rw [hr] at HRi
                      have HPk := fun W => rpack_c S3 W HT3.out hr
                      by_cases he : bytesS S3 = σ
                      · have HV := hid (runp_some (unp_yes HT3.out hr he))
                        rw [he] at HPk
                        clear hr HS4 he
                        go_upto_region 28 with (first
                          | ((with_reducible show wpList _ _ _ _ _ _); refine wpList_load_at rfl 33 _ rfl wq.heap.size 0 rfl 33 _ (stC S3) (0, 0) _ HA2.out Try.underlying33 rfl (by kernel_rfl) (stC_slf S3) ?_)
                          | (go_at_call 9; ((with_reducible refine (HRi _).mono ?_); rintro e w6 ⟨rfl, g6⟩; have HA6 := hid (HA2.out.below g6); have HR6 := hid (HR2.out.below g6); have HB6 := hid (Ev.bt HB2.out g6)))
                          | ((with_reducible show wpList _ _ _ _ _ _); refine wpList_load_atg (by rfl) 33 _ rfl wq.heap.size 0 rfl 33 _ (stC S3) (0, 0) _ HA6.out Try.underlying33 rfl (by kernel_rfl) (stC_slf S3) ?_)
                          | (go_at_call 11; ((with_reducible refine (HPk _).mono ?_); rintro e w7 ⟨rfl, g7⟩; have HA7 := hid (HA6.out.below g7); have HR7 := hid (HR6.out.below g7); have HB7 := hid (Ev.bt HB6.out g7))))
                        go_wp2_with (first
                          | ((with_reducible show wpList _ _ _ _ _ _); refine wpList_load_at rfl 33 _ rfl wq.heap.size 0 rfl 33 _ (stC S3) (0, 0) _ HA7.out Try.underlying33 rfl (by kernel_rfl) (stC_slf S3) ?_)
                          | ((with_reducible show wpList _ _ _ _ _ _); refine wpList_store_at rfl 33 _ _ rfl w.heap.size 0 (stC S3) rfl rfl 33 _ HR7.out (by kernel_rfl) (by show 60 ≤ 60; decide) rfl ?_))
                        generalize hW : World.setRow _ _ _ = wz
                        have HS : Hid (At wz w.heap.size (stC S3).toArray 33) := hid (by rw [← hW]; exact at_row HR7.out _)
                        have HB8 : Hid (Below w.heap.size w wz) := hid (by rw [← hW]; exact below_row HB7.out (Nat.le_refl _) _)
                        clear hW
                        refine bodyPost_ret (Gm.results_cell_tmp rfl _ _ w.heap.size 33 (stC S3).toArray (0, 0) _ rfl HS.out Try.underlying33 rfl (by kernel_rfl)) rfl ?_
                        exact ⟨by rw [HV.out]; rfl, HB8.out⟩
                      · have HV := hid (runp_none (none_of fun s h => by
                          have e := HS4.out s h
                          have k := (flat_all s).symm.trans (known h).by_
                          rw [e] at he
                          exact he k))
                        generalize bytesS S3 = τ at HPk he
                        have hb : (τ == σ) = false := by simpa using he
                        clear hr HS4 he
                        go_upto_region 27 with (first
                          | ((with_reducible show wpList _ _ _ _ _ _); refine wpList_load_at rfl 33 _ rfl wq.heap.size 0 rfl 33 _ (stC S3) (0, 0) _ HA2.out Try.underlying33 rfl (by kernel_rfl) (stC_slf S3) ?_)
                          | (go_at_call 9; ((with_reducible refine (HRi _).mono ?_); rintro e w6 ⟨rfl, g6⟩; have HA6 := hid (HA2.out.below g6); have HR6 := hid (HR2.out.below g6); have HB6 := hid (Ev.bt HB2.out g6)))
                          | ((with_reducible show wpList _ _ _ _ _ _); refine wpList_load_atg (by rfl) 33 _ rfl wq.heap.size 0 rfl 33 _ (stC S3) (0, 0) _ HA6.out Try.underlying33 rfl (by kernel_rfl) (stC_slf S3) ?_)
                          | (go_at_call 11; ((with_reducible refine (HPk _).mono ?_); rintro e w7 ⟨rfl, g7⟩; have HA7 := hid (HA6.out.below g7); have HR7 := hid (HR6.out.below g7); have HB7 := hid (Ev.bt HB6.out g7))))
                        go_wp2_with ((with_reducible show wpList _ _ _ _ _ _); refine wpList_store_at rfl 33 _ _ rfl w.heap.size 0 (stC zeroS) rfl rfl 33 _ HR7.out (by kernel_rfl) (by show 60 ≤ 60; decide) rfl ?_)
                        generalize hW : World.setRow _ _ _ = wz
                        have HS : Hid (At wz w.heap.size (stC zeroS).toArray 33) := hid (by rw [← hW]; exact at_row HR7.out _)
                        have HB5 : Hid (Below w.heap.size w wz) := hid (by rw [← hW]; exact below_row HB7.out (Nat.le_refl _) _)
                        clear hW
                        refine bodyPost_ret (Gm.results_cell_tmp rfl _ _ w.heap.size 33 (stC zeroS).toArray (0, 0) _ rfl HS.out Try.underlying33 rfl (by kernel_rfl)) rfl ?_
                        exact ⟨by rw [HV.out]; rfl, HB5.out⟩
end Go.Proofs.Ythbncbdnpeglfaa.Fz
