/- The walk of GameParts (layer 12, game). -/
import Derived.Test.YtoogcbniphoaoaaDoorGmRun
import Derived.Deep.DeepCutAuto
import Derived.Deep.RegionWith
namespace Go.Proofs.YtoogcbniphoaoaaDoor.Gm
open Go.RowKit Go.Proofs.YtoogcbniphoaoaaDoor.Fx Go.Proofs.YtoogcbniphoaoaaDoor.Tg Go.Proofs.YtoogcbniphoaoaaDoor.Dc
open Go.Proofs.YtoogcbniphoaoaaDoor.Ev (Ev Ky addR pageI At ecs Pg Evs flat)
open Go.Proofs.YtoogcbniphoaoaaDoor.Sh (In32 vec box insideB touchB slI mvP mvV wallI)
set_option linter.unusedVariables false

theorem zero_ty : tyS zeroS := ⟨by decide, ⟨by decide, by decide, by decide, by decide⟩, ⟨by decide, by decide, by decide, by decide⟩, zero_ok.1.ty, zero_ok.1.ty, zero_ok.1.ty, zero_ok.1.ty, zero_ok.1.ty, zero_ok.1.ty⟩
theorem runE_ty : ∀ (l : List (Int × Int)) (q : RR), tyS q.1 → tyS (runE q l).1
  | [], _, h => h
  | x :: r, q, h => runE_ty r (accE q x) (by
    unfold accE
    split
    · split
      · rename_i h1 h2
        obtain ⟨a1, _, _, _, a5⟩ := stepR_ok h2
        rw [a5]
        exact step_ty (right_ms a1 h) _ _
      · exact zero_ty
    · exact h)

theorem ins_sliced {w : World} {ao : Option Addr} {L cap : Nat} {l : List (Int × Int)} (h : Ins w (.slice ao L cap) l) (lo hi : Nat) (h1 : lo ≤ hi) (h2 : hi ≤ L) : Ins w (sliced ao lo hi cap 2) ((l.take hi).drop lo) := by
  obtain ⟨a, L', c', e, e1, e2, e3, e4⟩ := h
  cases e
  unfold sliced
  refine ⟨_, hi - lo, cap - lo, rfl, by rw [List.length_drop, List.length_take]; omega, by omega, by omega, fun hp => ?_⟩
  have hp2 : lo < hi := by rw [List.length_drop, List.length_take] at hp; omega
  obtain ⟨b, o, rfl, hb, hc⟩ := e4 (by omega)
  refine ⟨b, o + lo * 2, ?_, hb, fun j hj i v hv => ?_⟩
  · rw [if_neg (by omega)]
    show some (Addr.add ⟨b, o, none⟩ (lo * 2)) = _
    rw [Addr.add_lit]
  · have hj2 : lo + j < l.length := by rw [List.length_drop, List.length_take] at hj; omega
    rw [List.getElem_drop, List.getElem_take] at hv
    have := hc (lo + j) hj2 i v hv
    rw [show o + lo * 2 + j * 2 + i = o + (lo + j) * 2 + i by omega]
    exact this
/-- some events that are read, at the end of a list of the call's own, behind a guard that holds. -/
theorem app_evsg {ops : Array Oper} {rest : List Oper} {o : Oper} {a : Act} {Q : Exit → Act → World → Prop} (w : World) (hgd : Region.wanted o (yielded ops a.tmps) = true) (s x : Operand)
    (ho : o.op = .call { callee := .builtin .append, args := #[s, x], argTypes := #[37, 37] })
    (B : Nat) (v : Value) (l : List Ev) (hs : a.eval s = v) (hown : w.ownsRow B 45 9 v l.length (flat ecs l)) (u : Value) (k : List Ev) (hu : Evs w u k) (hx : a.eval x = u) (hlen : l.length ≤ 1000000) (hlen2 : k.length ≤ 1000000) (hB : B ≤ w.heap.size)
    (h : ∀ v' w', w'.ownsRow B 45 9 v' (l ++ k).length (flat ecs (l ++ k)) → w.grownBy w' v.ownBlock → wpList Tryd.prog ops Q rest (a.put o.dst v') w') :
    wpList Tryd.prog ops Q (o :: rest) a w := by
  obtain ⟨i0, hi, hz0, hz1, hz2⟩ := info_parts Ev.info_event
  obtain ⟨ao, L, cap, rfl, hL, hc, hm, ht⟩ := hu
  refine wpList_step fun K hK => ?_
  rw [if_pos hgd]
  cases ao with
  | none =>
    have h0 : k.length = 0 := by
      rcases Nat.eq_zero_or_pos k.length with e | e
      · exact e
      · obtain ⟨b, o, e, _⟩ := ht e
        cases e
    have hnil : k = [] := List.length_eq_zero_iff.1 h0
    subst hnil
    obtain rfl : L = 0 := by simpa using hL.symm
    have hrun := app_none (P := Tryd.prog) (w := w) B 37 o.type 45 i0 9 cap Tryd.underlying37 hi v l.length (flat ecs l) hown
    unfold Oper.wp
    simp [execOp, ho, resolve, invoke, builtin, hs, hx, hrun, Result.andThen]
    exact hK _ _ (h v w (by simpa using hown) (grown_self _ _))
  | some ad =>
    have hF := Ev.row_flat (k := 9) (fun _ => rfl) (by decide) ht
    have hfl : (flat ecs k).length = k.length * 9 := Ev.flat_len (enc := ecs) (fun _ => rfl) k
    obtain ⟨v', w', hr, h2, h3, h4, h5⟩ := run_append_own_at (P := Tryd.prog) w B 37 o.type 45 i0 (Ev.ev Ev.zeroE) 9 72 Tryd.underlying37 hi hz0 hz1 hz2 rfl (by decide) v l.length (flat ecs l) hown ad L cap (flat ecs k) (by rw [hfl, hL]) hF (Ev.flat_cell Ev.ecs_one k) (by unfold maxLen; omega) (by omega) (by omega)
    unfold Oper.wp execOp
    simp only [ho, resolve, invoke, builtin, Sem.run_bind, Sem.run_pure, Result.andThen_ok, List.map_toArray, List.map_cons, List.map_nil, hs, hx, hr]
    refine hK _ _ (h v' w' ?_ h3)
    rw [Ev.flat_append, List.length_append, hL]
    exact h2

set_option maxRecDepth 100000 in
set_option maxHeartbeats 4000000 in
theorem parts_w (seed at' : Int) (v : Value) (l : List (Int × Int)) (w : World) (htab : Tab w) (hs : 0 ≤ seed ∧ seed < 4294967296) (h : Ins w v l) (hb : ∀ x, x ∈ l → (0 ≤ x.1 ∧ x.1 ≤ 255) ∧ 0 ≤ x.2 ∧ x.2 ≤ 255) :
    Calls Tryd.prog 4 #[.int .u32 seed, v, .int .i64 at'] w fun e w' => e = .returned (.bool true) ∧ Below w.heap.size w w' := by
  have HI := hid h
  have HTb := hid htab
  have HBd : Hid (∀ x, x ∈ l → 0 ≤ x.1 ∧ 0 ≤ x.2) := hid (fun x hx => ⟨(hb x hx).1.1, (hb x hx).2.1⟩)
  obtain ⟨ao, L, cap, rfl, hL, hc, hm, ht⟩ := h
  have HL := hid hL
  have HT := hid ht
  have HS := hid hs
  clear hL ht htab hb hs
  have HAw := hid (awake_c w HTb.out)
  go_enter Tryd.func4, Tryd.ntmps4
  go_upto_region 3 with (go_at_call 5; ((with_reducible refine HAw.out.mono ?_); rintro e w1 ⟨rfl, g1⟩; have HB1 := hid g1; clear g1))
  clear HAw
  by_cases q1 : (200 : Int) < (L : Int)
  · go_wp2_with fail
    go_ret
    exact ⟨rfl, HB1.out⟩
  have hL2 : L ≤ 200 := by omega
  have HRun : Hid (∀ W, Below w.heap.size w W → Calls Tryd.prog 8 #[.agg (stC (beginS seed)).toArray, .slice ao L cap] W fun e w' => ∃ v', e = .returned (.tuple #[.agg (stC (runR (beginS seed) l).1).toArray, v', .int .i64 (runR (beginS seed) l).2.2]) ∧ w'.ownsRow W.heap.size 45 9 v' (runR (beginS seed) l).2.1.length (flat ecs (runR (beginS seed) l).2.1) ∧ Below W.heap.size W w' ∧ (runR (beginS seed) l).2.1.length ≤ 64 * l.length) := hid (fun W g => run_all (beginS seed) _ l W (HTb.out.below HTb.out.lt g) (begin_ty HS.out) (HI.out.below g) HBd.out (by have := HL.out; omega))
  go_upto_region 5 with fail
  go_cut [7] (fun s7 wx => ∃ k : Nat, k ≤ L ∧ s7 = .int .i64 k ∧ w1 = wx)
  case first =>
    have hu : 0 ≤ IntKind.u64.wrap at' := by rw [IntKind.wrap_u64]; omega
    have hr0 := Int.tmod_nonneg ((L : Int) + 1) hu
    have hr1 := Int.tmod_lt_of_pos (IntKind.u64.wrap at') (show (0 : Int) < (L : Int) + 1 by omega)
    go_wp2_with fail
    go_meet
    case rel =>
      have hm : (IntKind.u64.wrap at').tmod ((L : Int) + 1) = IntKind.u64.wrap at' % ((L : Int) + 1) := Int.tmod_eq_emod_of_nonneg hu
      rw [hm] at hr0 hr1
      generalize IntKind.u64.wrap at' % ((L : Int) + 1) = z at hr0 hr1 ⊢
      refine ⟨z.toNat, by omega, ?_, rfl⟩
      rw [show ((z.toNat : Nat) : Int) = z by omega]
      show Value.int .i64 (wrap64 z) = _
      rw [show wrap64 z = z by unfold wrap64; omega]
  case rest =>
    obtain ⟨k, hk, rfl, rfl⟩ := hcut
    have HP := hid (run_parts (beginS seed) l k)
    have HRun1 : Hid (∀ W, Below w.heap.size w W → Calls Tryd.prog 8 #[.agg (stC (beginS seed)).toArray, sliced ao 0 k cap 2] W fun e w' => ∃ v', e = .returned (.tuple #[.agg (stC (runR (beginS seed) (l.take k)).1).toArray, v', .int .i64 (runR (beginS seed) (l.take k)).2.2]) ∧ w'.ownsRow W.heap.size 45 9 v' (runR (beginS seed) (l.take k)).2.1.length (flat ecs (runR (beginS seed) (l.take k)).2.1) ∧ Below W.heap.size W w' ∧ (runR (beginS seed) (l.take k)).2.1.length ≤ 64 * (l.take k).length) := hid (fun W g => run_all (beginS seed) _ (l.take k) W (HTb.out.below HTb.out.lt g) (begin_ty HS.out) (ins_sliced (HI.out.below g) 0 k (Nat.zero_le _) hk) (fun x hx => HBd.out x (List.mem_of_mem_take hx)) (by have := HL.out; rw [List.length_take]; omega))
    have HRun2 : Hid (∀ W, Below w.heap.size w W → Calls Tryd.prog 8 #[.agg (stC (runR (beginS seed) (l.take k)).1).toArray, sliced ao k L cap 2] W fun e w' => ∃ v', e = .returned (.tuple #[.agg (stC (runR (runR (beginS seed) (l.take k)).1 (l.drop k)).1).toArray, v', .int .i64 (runR (runR (beginS seed) (l.take k)).1 (l.drop k)).2.2]) ∧ w'.ownsRow W.heap.size 45 9 v' (runR (runR (beginS seed) (l.take k)).1 (l.drop k)).2.1.length (flat ecs (runR (runR (beginS seed) (l.take k)).1 (l.drop k)).2.1) ∧ Below W.heap.size W w' ∧ (runR (runR (beginS seed) (l.take k)).1 (l.drop k)).2.1.length ≤ 64 * (l.drop k).length) := hid (fun W g => run_all _ _ (l.drop k) W (HTb.out.below HTb.out.lt g) (runE_ty _ _ (begin_ty HS.out)) (by have := ins_sliced (HI.out.below g) k L hk (Nat.le_refl _); rw [List.take_of_length_le (by have := HL.out; omega)] at this; exact this) (fun x hx => HBd.out x (List.mem_of_mem_drop hx)) (by have := HL.out; rw [List.length_drop]; omega))
    generalize runR (beginS seed) l = R0 at HP HRun
    generalize runR (beginS seed) (l.take k) = R1 at HP HRun1 HRun2
    generalize runR R1.1 (l.drop k) = R2 at HP HRun2
    have hk0 : (0 : Int) ≤ (k : Int) := by omega
    have hkL : (k : Int) ≤ (L : Int) := by omega
    have hkc : (k : Int) ≤ (cap : Int) := by omega
    go_upto_region 7 with (first
      | (go_at_call 9; ((with_reducible refine (start_c _ _).mono ?_); rintro e w2 ⟨rfl, g2⟩; have HB2 := hid (Ev.bt HB1.out g2)))
      | (go_at_call 8; ((with_reducible refine (HRun.out _ HB2.out).mono ?_); rintro e w3 ⟨va, rfl, ho, g3, hle⟩; have HO3 := hid (Ev.owns_base ho HB2.out.size); have HL3 := hid hle; have HB3 := hid (Ev.bt HB2.out g3); clear ho hle))
      | (refine wpList_store_at rfl 33 _ _ rfl w3.heap.size 0 (stC R0.1) rfl rfl 33 _ (At.new w3 _ _) (by kernel_rfl) (by show 60 ≤ 60; decide) rfl ?_))
    generalize hW : World.setRow _ _ _ = w4
    have HG4 : Hid (Below w3.heap.size w3 w4) := hid (by rw [← hW]; exact below_row (Ev.bal (Ev.br w3) _) (Nat.le_refl _) _)
    have HN4 : Hid (At w4 w3.heap.size (stC R0.1).toArray 33) := hid (by rw [← hW]; exact at_row (At.new w3 _ _) _)
    have HO4 := hid (own_old HO3.out HG4.out)
    have HB4 := hid (Ev.bt HB3.out HG4.out)
    clear hW HG4 HO3 HB3 HB2 HRun
    generalize w3.heap.size = N0 at HN4 ⊢
    go_cut [11, 12, 13] (fun s11 s12 s13 wx => ∃ B vb, s11 = .pointer (some ⟨B, 0, none⟩) ∧ s12 = vb ∧ s13 = .int .i64 R1.2.2 ∧ At wx B (stC R1.1).toArray 33 ∧ wx.ownsRow w4.heap.size 45 9 vb R1.2.1.length (flat ecs R1.2.1) ∧ R1.2.1.length ≤ 64 * (l.take k).length ∧ Below w4.heap.size w4 wx)
    case first =>
      obtain ⟨Vs, HV⟩ : ∃ V, Hid (V = sliced ao 0 k cap 2) := ⟨_, hid rfl⟩
      rw [← HV.out] at HRun1
      have HC0 := hid (Ev.bd1 (Ev.br w4))
      have HB4' := HB4
      refine wp_region_noPanic ?_
      refine wp_region_held_drew (S := (fun W => Below w4.heap.size w4 W)) (by kernel_rfl) HC0.out (fun hHeld => ?_)
      generalize World.drew w4 = u0 at HC0 hHeld ⊢
      (refine takeW (i := 0) (d := 39) (v := ?_) rfl rfl (by kernel_rfl) (by kernel_rfl) (by kernel_rfl) (fun _ _ _ h => h) (by rfl) ?_ (by assumption) ?_)
      rotate_left
      · (intro W hSW; go_simp; (try with_reducible rfl))
      simp only [Act.put, List.setIfInBounds_toArray, List.set_cons_zero, List.set_cons_succ]
      (refine takeW (i := 2) (d := 41) (v := ?_) rfl rfl (by kernel_rfl) (by kernel_rfl) (by kernel_rfl) (fun _ _ _ h => h) (by rfl) ?_ (by assumption) ?_)
      rotate_left
      · (intro W hSW; go_simp; (try with_reducible rfl))
      simp only [Act.put, List.setIfInBounds_toArray, List.set_cons_zero, List.set_cons_succ]
      (refine takeW (i := 3) (d := 42) (v := ?_) rfl rfl (by kernel_rfl) (by kernel_rfl) (by kernel_rfl) (fun _ _ _ h => h) (by rfl) ?_ (by assumption) ?_)
      rotate_left
      · (intro W hSW; go_simp; (try with_reducible rfl))
      simp only [Act.put, List.setIfInBounds_toArray, List.set_cons_zero, List.set_cons_succ]
      (refine takeW (i := 4) (d := 43) (v := Vs) rfl rfl (by kernel_rfl) (by kernel_rfl) (by kernel_rfl) (fun _ _ _ h => h) (by rfl) ?_ (by assumption) ?_)
      · (intro W hSW; rw [HV.out]; go_simp; (try rfl))
      simp only [Act.put, List.setIfInBounds_toArray, List.set_cons_zero, List.set_cons_succ]
      refine wpAnyH_ready (rs := [1, 10]) (by kernel_rfl) (by simp) ?_
      refine AllReadyH.cons (i := 1) rfl (fun K hKK => ?_) ?_
      · go_simp
        (with_reducible refine (start_c _ _).mono ?_)
        rintro e u1 ⟨rfl, g1⟩
        have HC1 := hid (Ev.bt HC0.out g1)
        dsimp only
        refine hKK.out _ _ HC1.out (fun hHeld => ?_)
        clear hKK K
        (try simp only [Act.put, List.setIfInBounds_toArray, List.set_cons_zero, List.set_cons_succ])
        refine wpAnyH_ready (rs := [5, 10]) (by kernel_rfl) (by simp) ?_
        refine AllReadyH.cons (i := 5) rfl (fun K hKK => ?_) ?_
        · go_simp
          (refine (HRun1.out _ (Ev.bt HB4'.out HC1.out)).mono ?_)
          rintro e u2 ⟨vq, rfl, ho, g2, hle⟩
          have HO2 := hid (Ev.owns_base ho HC1.out.size)
          have HLe := hid hle
          clear ho hle
          have HC2 := hid (Ev.bt HC1.out g2)
          dsimp only
          refine hKK.out _ _ HC2.out (fun hHeld => ?_)
          clear hKK K
          (try simp only [Act.put, List.setIfInBounds_toArray, List.set_cons_zero, List.set_cons_succ])
          (refine takeW (i := 6) (d := 38) (v := ?_) rfl rfl (by kernel_rfl) (by kernel_rfl) (by kernel_rfl) (fun _ _ _ h => h) (by rfl) ?_ (by assumption) ?_)
          rotate_left
          · (intro W hSW; go_simp; (try with_reducible rfl))
          simp only [Act.put, List.setIfInBounds_toArray, List.set_cons_zero, List.set_cons_succ]
          (refine takeW (i := 7) (d := 45) (v := ?_) rfl rfl (by kernel_rfl) (by kernel_rfl) (by kernel_rfl) (fun _ _ _ h => h) (by rfl) ?_ (by assumption) ?_)
          rotate_left
          · (intro W hSW; go_simp; (try with_reducible rfl))
          simp only [Act.put, List.setIfInBounds_toArray, List.set_cons_zero, List.set_cons_succ]
          (refine takeW (i := 8) (d := 46) (v := ?_) rfl rfl (by kernel_rfl) (by kernel_rfl) (by kernel_rfl) (fun _ _ _ h => h) (by rfl) ?_ (by assumption) ?_)
          rotate_left
          · (intro W hSW; go_simp; (try with_reducible rfl))
          simp only [Act.put, List.setIfInBounds_toArray, List.set_cons_zero, List.set_cons_succ]
          (refine takeW (i := 9) (d := 47) (v := ?_) rfl rfl (by kernel_rfl) (by kernel_rfl) (by kernel_rfl) (fun _ _ _ h => h) (by rfl) ?_ (by assumption) ?_)
          rotate_left
          · (intro W hSW; go_simp; (try with_reducible rfl))
          simp only [Act.put, List.setIfInBounds_toArray, List.set_cons_zero, List.set_cons_succ]
          refine wpAnyH_ready (rs := [10]) (by kernel_rfl) (by simp) ?_
          refine AllReadyH.cons (i := 10) rfl (fun K hKK => ?_) AllReadyH.nil
          go_simp
          have HD3' := hid (At.new u2 (stC zeroS).toArray 33)
          have HC3' := hid (Ev.bal HC2.out (.cells (stC zeroS).toArray 33))
          have HO3' := hid (own_old HO2.out (Ev.bal (Ev.br u2) (.cells (stC zeroS).toArray 33)))
          have HGe := hid (show w4.heap.size ≤ u2.heap.size from HC2.out.size)
          generalize hA : World.alloc u2 _ = u3 at hKK ⊢
          have HD3 : Hid (At u3 u2.heap.size (stC zeroS).toArray 33) := hid (by rw [← hA]; exact HD3'.out)
          have HC3 : Hid (Below w4.heap.size w4 u3) := hid (by rw [← hA]; exact HC3'.out)
          have HO3 : Hid (u3.ownsRow w4.heap.size 45 9 vq R1.2.1.length (flat ecs R1.2.1)) := hid (by rw [← hA]; exact HO3'.out)
          clear hA HD3' HC3' HO3'
          generalize u2.heap.size = Bq at HD3 HGe ⊢
          refine hKK.out _ _ HC3.out (fun hHeld => ?_)
          clear hKK K
          (try simp only [Act.put, List.setIfInBounds_toArray, List.set_cons_zero, List.set_cons_succ])
          refine wpAnyH_ready (rs := [11]) (by kernel_rfl) (by simp) ?_
          refine AllReadyH.cons (i := 11) rfl (fun K hKK => ?_) AllReadyH.nil
          rw [if_pos (by rfl)]
          refine wp_store_at 33 _ _ rfl Bq 0 (stC R1.1) rfl rfl 33 _ HD3.out (by kernel_rfl) (by show 60 ≤ 60; decide) rfl ?_
          change K (Act.put _ none undef) (u3.setRow Bq (stC R1.1).toArray)
          have HDF := hid (at_row HD3.out (stC R1.1).toArray)
          have HCF := hid (below_row HC3.out HGe.out (stC R1.1).toArray)
          have HOF := hid (own_row HO3.out (at_not_row HD3.out HO3.out (by decide)) (stC R1.1).toArray)
          refine hKK.out _ _ HCF.out (fun hHeld => ?_)
          clear hKK K
          (try simp only [Act.put])
          generalize World.setRow u3 _ _ = uF at HDF HCF HOF hHeld ⊢
          refine wpAnyH_ready (rs := [12]) (by kernel_rfl) (by simp) ?_
          refine AllReadyH.cons (i := 12) rfl (fun K hKK => ?_) AllReadyH.nil
          go_simp
          refine hKK.out _ _ hHeld (fun hHeld => ?_)
          clear hKK K
          (try simp only [Act.put, List.setIfInBounds_toArray, List.set_cons_zero, List.set_cons_succ])
          refine wpAnyH_ready (rs := [13]) (by kernel_rfl) (by simp) ?_
          refine AllReadyH.cons (i := 13) rfl (fun K hKK => ?_) AllReadyH.nil
          go_simp
          refine hKK.out _ _ hHeld (fun hHeld => ?_)
          clear hKK K
          (try simp only [Act.put, List.setIfInBounds_toArray, List.set_cons_zero, List.set_cons_succ])
          refine wpAnyH_done (by kernel_rfl) ?_ _
          refine NoPanic.normal ?_
          go_wp2_with fail
          go_meet
          case rel => exact ⟨Bq, vq, rfl, rfl, rfl, HDF.out, HOF.out, HLe.out, HCF.out⟩
        refine AllReadyH.cons (i := 10) rfl (fun K hKK => ?_) AllReadyH.nil
        go_simp
        have HD4' := hid (At.new u1 (stC zeroS).toArray 33)
        have HC4' := hid (Ev.bal HC1.out (.cells (stC zeroS).toArray 33))
        have HGe := hid (show w4.heap.size ≤ u1.heap.size from HC1.out.size)
        generalize hA : World.alloc u1 _ = u4 at hKK ⊢
        have HD4 : Hid (At u4 u1.heap.size (stC zeroS).toArray 33) := hid (by rw [← hA]; exact HD4'.out)
        have HC4 : Hid (Below w4.heap.size w4 u4) := hid (by rw [← hA]; exact HC4'.out)
        clear hA HD4' HC4'
        generalize u1.heap.size = Bq at HD4 HGe ⊢
        refine hKK.out _ _ HC4.out (fun hHeld => ?_)
        clear hKK K
        (try simp only [Act.put, List.setIfInBounds_toArray, List.set_cons_zero, List.set_cons_succ])
        refine wpAnyH_ready (rs := [5]) (by kernel_rfl) (by simp) ?_
        refine AllReadyH.cons (i := 5) rfl (fun K hKK => ?_) AllReadyH.nil
        go_simp
        (refine (HRun1.out _ (Ev.bt HB4'.out HC4.out)).mono ?_)
        rintro e u5 ⟨vq, rfl, ho, g5, hle⟩
        have HO5 := hid (Ev.owns_base ho HC4.out.size)
        have HLe := hid hle
        clear ho hle
        have HC5 := hid (Ev.bt HC4.out g5)
        have HD5 := hid (HD4.out.below g5)
        dsimp only
        refine hKK.out _ _ HC5.out (fun hHeld => ?_)
        clear hKK K
        (try simp only [Act.put, List.setIfInBounds_toArray, List.set_cons_zero, List.set_cons_succ])
        (refine takeW (i := 6) (d := 38) (v := ?_) rfl rfl (by kernel_rfl) (by kernel_rfl) (by kernel_rfl) (fun _ _ _ h => h) (by rfl) ?_ (by assumption) ?_)
        rotate_left
        · (intro W hSW; go_simp; (try with_reducible rfl))
        simp only [Act.put, List.setIfInBounds_toArray, List.set_cons_zero, List.set_cons_succ]
        (refine takeW (i := 7) (d := 45) (v := ?_) rfl rfl (by kernel_rfl) (by kernel_rfl) (by kernel_rfl) (fun _ _ _ h => h) (by rfl) ?_ (by assumption) ?_)
        rotate_left
        · (intro W hSW; go_simp; (try with_reducible rfl))
        simp only [Act.put, List.setIfInBounds_toArray, List.set_cons_zero, List.set_cons_succ]
        (refine takeW (i := 8) (d := 46) (v := ?_) rfl rfl (by kernel_rfl) (by kernel_rfl) (by kernel_rfl) (fun _ _ _ h => h) (by rfl) ?_ (by assumption) ?_)
        rotate_left
        · (intro W hSW; go_simp; (try with_reducible rfl))
        simp only [Act.put, List.setIfInBounds_toArray, List.set_cons_zero, List.set_cons_succ]
        (refine takeW (i := 9) (d := 47) (v := ?_) rfl rfl (by kernel_rfl) (by kernel_rfl) (by kernel_rfl) (fun _ _ _ h => h) (by rfl) ?_ (by assumption) ?_)
        rotate_left
        · (intro W hSW; go_simp; (try with_reducible rfl))
        simp only [Act.put, List.setIfInBounds_toArray, List.set_cons_zero, List.set_cons_succ]
        refine wpAnyH_ready (rs := [11]) (by kernel_rfl) (by simp) ?_
        refine AllReadyH.cons (i := 11) rfl (fun K hKK => ?_) AllReadyH.nil
        rw [if_pos (by rfl)]
        refine wp_store_at 33 _ _ rfl Bq 0 (stC R1.1) rfl rfl 33 _ HD5.out (by kernel_rfl) (by show 60 ≤ 60; decide) rfl ?_
        change K (Act.put _ none undef) (u5.setRow Bq (stC R1.1).toArray)
        have HDF := hid (at_row HD5.out (stC R1.1).toArray)
        have HCF := hid (below_row HC5.out HGe.out (stC R1.1).toArray)
        have HOF := hid (own_row HO5.out (at_not_row HD5.out HO5.out (by decide)) (stC R1.1).toArray)
        refine hKK.out _ _ HCF.out (fun hHeld => ?_)
        clear hKK K
        (try simp only [Act.put])
        generalize World.setRow u5 _ _ = uF at HDF HCF HOF hHeld ⊢
        refine wpAnyH_ready (rs := [12]) (by kernel_rfl) (by simp) ?_
        refine AllReadyH.cons (i := 12) rfl (fun K hKK => ?_) AllReadyH.nil
        go_simp
        refine hKK.out _ _ hHeld (fun hHeld => ?_)
        clear hKK K
        (try simp only [Act.put, List.setIfInBounds_toArray, List.set_cons_zero, List.set_cons_succ])
        refine wpAnyH_ready (rs := [13]) (by kernel_rfl) (by simp) ?_
        refine AllReadyH.cons (i := 13) rfl (fun K hKK => ?_) AllReadyH.nil
        go_simp
        refine hKK.out _ _ hHeld (fun hHeld => ?_)
        clear hKK K
        (try simp only [Act.put, List.setIfInBounds_toArray, List.set_cons_zero, List.set_cons_succ])
        refine wpAnyH_done (by kernel_rfl) ?_ _
        refine NoPanic.normal ?_
        go_wp2_with fail
        go_meet
        case rel => exact ⟨Bq, vq, rfl, rfl, rfl, HDF.out, HOF.out, HLe.out, HCF.out⟩
      refine AllReadyH.cons (i := 10) rfl (fun K hKK => ?_) AllReadyH.nil
      go_simp
      have HD6' := hid (At.new u0 (stC zeroS).toArray 33)
      have HC6' := hid (Ev.bal HC0.out (.cells (stC zeroS).toArray 33))
      have HGe := hid (show w4.heap.size ≤ u0.heap.size from HC0.out.size)
      generalize hA : World.alloc u0 _ = u6 at hKK ⊢
      have HD6 : Hid (At u6 u0.heap.size (stC zeroS).toArray 33) := hid (by rw [← hA]; exact HD6'.out)
      have HC6 : Hid (Below w4.heap.size w4 u6) := hid (by rw [← hA]; exact HC6'.out)
      clear hA HD6' HC6'
      generalize u0.heap.size = Bq at HD6 HGe ⊢
      refine hKK.out _ _ HC6.out (fun hHeld => ?_)
      clear hKK K
      (try simp only [Act.put, List.setIfInBounds_toArray, List.set_cons_zero, List.set_cons_succ])
      refine wpAnyH_ready (rs := [1]) (by kernel_rfl) (by simp) ?_
      refine AllReadyH.cons (i := 1) rfl (fun K hKK => ?_) AllReadyH.nil
      go_simp
      (with_reducible refine (start_c _ _).mono ?_)
      rintro e u7 ⟨rfl, g7⟩
      have HC7 := hid (Ev.bt HC6.out g7)
      have HD7 := hid (HD6.out.below g7)
      dsimp only
      refine hKK.out _ _ HC7.out (fun hHeld => ?_)
      clear hKK K
      (try simp only [Act.put, List.setIfInBounds_toArray, List.set_cons_zero, List.set_cons_succ])
      refine wpAnyH_ready (rs := [5]) (by kernel_rfl) (by simp) ?_
      refine AllReadyH.cons (i := 5) rfl (fun K hKK => ?_) AllReadyH.nil
      go_simp
      (refine (HRun1.out _ (Ev.bt HB4'.out HC7.out)).mono ?_)
      rintro e u8 ⟨vq, rfl, ho, g8, hle⟩
      have HO8 := hid (Ev.owns_base ho HC7.out.size)
      have HLe := hid hle
      clear ho hle
      have HC8 := hid (Ev.bt HC7.out g8)
      have HD8 := hid (HD7.out.below g8)
      dsimp only
      refine hKK.out _ _ HC8.out (fun hHeld => ?_)
      clear hKK K
      (try simp only [Act.put, List.setIfInBounds_toArray, List.set_cons_zero, List.set_cons_succ])
      (refine takeW (i := 6) (d := 38) (v := ?_) rfl rfl (by kernel_rfl) (by kernel_rfl) (by kernel_rfl) (fun _ _ _ h => h) (by rfl) ?_ (by assumption) ?_)
      rotate_left
      · (intro W hSW; go_simp; (try with_reducible rfl))
      simp only [Act.put, List.setIfInBounds_toArray, List.set_cons_zero, List.set_cons_succ]
      (refine takeW (i := 7) (d := 45) (v := ?_) rfl rfl (by kernel_rfl) (by kernel_rfl) (by kernel_rfl) (fun _ _ _ h => h) (by rfl) ?_ (by assumption) ?_)
      rotate_left
      · (intro W hSW; go_simp; (try with_reducible rfl))
      simp only [Act.put, List.setIfInBounds_toArray, List.set_cons_zero, List.set_cons_succ]
      (refine takeW (i := 8) (d := 46) (v := ?_) rfl rfl (by kernel_rfl) (by kernel_rfl) (by kernel_rfl) (fun _ _ _ h => h) (by rfl) ?_ (by assumption) ?_)
      rotate_left
      · (intro W hSW; go_simp; (try with_reducible rfl))
      simp only [Act.put, List.setIfInBounds_toArray, List.set_cons_zero, List.set_cons_succ]
      (refine takeW (i := 9) (d := 47) (v := ?_) rfl rfl (by kernel_rfl) (by kernel_rfl) (by kernel_rfl) (fun _ _ _ h => h) (by rfl) ?_ (by assumption) ?_)
      rotate_left
      · (intro W hSW; go_simp; (try with_reducible rfl))
      simp only [Act.put, List.setIfInBounds_toArray, List.set_cons_zero, List.set_cons_succ]
      refine wpAnyH_ready (rs := [11]) (by kernel_rfl) (by simp) ?_
      refine AllReadyH.cons (i := 11) rfl (fun K hKK => ?_) AllReadyH.nil
      rw [if_pos (by rfl)]
      refine wp_store_at 33 _ _ rfl Bq 0 (stC R1.1) rfl rfl 33 _ HD8.out (by kernel_rfl) (by show 60 ≤ 60; decide) rfl ?_
      change K (Act.put _ none undef) (u8.setRow Bq (stC R1.1).toArray)
      have HDF := hid (at_row HD8.out (stC R1.1).toArray)
      have HCF := hid (below_row HC8.out HGe.out (stC R1.1).toArray)
      have HOF := hid (own_row HO8.out (at_not_row HD8.out HO8.out (by decide)) (stC R1.1).toArray)
      refine hKK.out _ _ HCF.out (fun hHeld => ?_)
      clear hKK K
      (try simp only [Act.put])
      generalize World.setRow u8 _ _ = uF at HDF HCF HOF hHeld ⊢
      refine wpAnyH_ready (rs := [12]) (by kernel_rfl) (by simp) ?_
      refine AllReadyH.cons (i := 12) rfl (fun K hKK => ?_) AllReadyH.nil
      go_simp
      refine hKK.out _ _ hHeld (fun hHeld => ?_)
      clear hKK K
      (try simp only [Act.put, List.setIfInBounds_toArray, List.set_cons_zero, List.set_cons_succ])
      refine wpAnyH_ready (rs := [13]) (by kernel_rfl) (by simp) ?_
      refine AllReadyH.cons (i := 13) rfl (fun K hKK => ?_) AllReadyH.nil
      go_simp
      refine hKK.out _ _ hHeld (fun hHeld => ?_)
      clear hKK K
      (try simp only [Act.put, List.setIfInBounds_toArray, List.set_cons_zero, List.set_cons_succ])
      refine wpAnyH_done (by kernel_rfl) ?_ _
      refine NoPanic.normal ?_
      go_wp2_with fail
      go_meet
      case rel => exact ⟨Bq, vq, rfl, rfl, rfl, HDF.out, HOF.out, HLe.out, HCF.out⟩
    case rest =>
      obtain ⟨B, vb, rfl, evb, rfl, hN, hO, hLe, hB⟩ := hcut
      obtain rfl := evb.symm
      have HN5 := hid hN
      have HO5 := hid hO
      have HL5 := hid hLe
      have HX4 := hid (HN4.out.below hB)
      have HA5 := hid (own_old HO4.out hB)
      have HB5 := hid (Ev.bt HB4.out hB)
      have HBw4 := HB4
      have HV4 := hid (Ev.owns_sl (enc := ecs) (k := 9) (fun _ => rfl) HO4.out)
      have HB45 := hid hB
      clear hN hO hLe hB HN4 HO4 HB4 HRun1
      obtain ⟨w5, hw5⟩ : ∃ x, x = wc := ⟨_, rfl⟩
      subst hw5
      go_upto_region 8 with fail
      go_cut [14, 15, 16] (fun s14 s15 s16 wx => ∃ C vc, s14 = .pointer (some ⟨C, 0, none⟩) ∧ s15 = vc ∧ s16 = .int .i64 R2.2.2 ∧ At wx C (stC R2.1).toArray 33 ∧ wx.ownsRow w5.heap.size 45 9 vc R2.2.1.length (flat ecs R2.2.1) ∧ R2.2.1.length ≤ 64 * (l.drop k).length ∧ Below w5.heap.size w5 wx)
      case first =>
        obtain ⟨Vs, HV⟩ : ∃ V, Hid (V = sliced ao k L cap 2) := ⟨_, hid rfl⟩
        rw [← HV.out] at HRun2
        have HC0 := hid (Ev.bd1 (Ev.br w5))
        have HB4' := HB5
        refine wp_region_noPanic ?_
        refine wp_region_held_drew (S := (fun W => Below w5.heap.size w5 W)) (by kernel_rfl) HC0.out (fun hHeld => ?_)
        generalize World.drew w5 = u0 at HC0 hHeld ⊢
        (refine takeW (i := 0) (d := 49) (v := .agg (stC R1.1).toArray) rfl rfl (by kernel_rfl) (by kernel_rfl) (by kernel_rfl) (fun _ _ _ h => h) (by rfl) ?_ (by assumption) ?_)
        · (intro W hSW; exact exec_load_at W 33 _ rfl B 0 rfl 33 _ (stC R1.1) (0, 0) _ (HN5.out.below hSW) Tryd.underlying33 rfl (by kernel_rfl) (stC_self R1.1))
        simp only [Act.put, List.setIfInBounds_toArray, List.set_cons_zero, List.set_cons_succ]
        (refine takeW (i := 1) (d := 50) (v := ?_) rfl rfl (by kernel_rfl) (by kernel_rfl) (by kernel_rfl) (fun _ _ _ h => h) (by rfl) ?_ (by assumption) ?_)
        rotate_left
        · (intro W hSW; go_simp; (try with_reducible rfl))
        simp only [Act.put, List.setIfInBounds_toArray, List.set_cons_zero, List.set_cons_succ]
        (refine takeW (i := 2) (d := 51) (v := ?_) rfl rfl (by kernel_rfl) (by kernel_rfl) (by kernel_rfl) (fun _ _ _ h => h) (by rfl) ?_ (by assumption) ?_)
        rotate_left
        · (intro W hSW; go_simp; (try with_reducible rfl))
        simp only [Act.put, List.setIfInBounds_toArray, List.set_cons_zero, List.set_cons_succ]
        (refine takeW (i := 3) (d := 52) (v := Vs) rfl rfl (by kernel_rfl) (by kernel_rfl) (by kernel_rfl) (fun _ _ _ h => h) (by rfl) ?_ (by assumption) ?_)
        · (intro W hSW; rw [HV.out]; go_simp; (try rfl))
        simp only [Act.put, List.setIfInBounds_toArray, List.set_cons_zero, List.set_cons_succ]
        refine wpAnyH_ready (rs := [4, 9]) (by kernel_rfl) (by simp) ?_
        refine AllReadyH.cons (i := 4) rfl (fun K hKK => ?_) ?_
        · go_simp
          (refine (HRun2.out _ (Ev.bt HB4'.out HC0.out)).mono ?_)
          rintro e u1 ⟨vq, rfl, ho, g1, hle⟩
          have HO1 := hid (Ev.owns_base ho HC0.out.size)
          have HLe := hid hle
          clear ho hle
          have HC1 := hid (Ev.bt HC0.out g1)
          dsimp only
          refine hKK.out _ _ HC1.out (fun hHeld => ?_)
          clear hKK K
          (try simp only [Act.put, List.setIfInBounds_toArray, List.set_cons_zero, List.set_cons_succ])
          (refine takeW (i := 5) (d := 48) (v := ?_) rfl rfl (by kernel_rfl) (by kernel_rfl) (by kernel_rfl) (fun _ _ _ h => h) (by rfl) ?_ (by assumption) ?_)
          rotate_left
          · (intro W hSW; go_simp; (try with_reducible rfl))
          simp only [Act.put, List.setIfInBounds_toArray, List.set_cons_zero, List.set_cons_succ]
          (refine takeW (i := 6) (d := 54) (v := ?_) rfl rfl (by kernel_rfl) (by kernel_rfl) (by kernel_rfl) (fun _ _ _ h => h) (by rfl) ?_ (by assumption) ?_)
          rotate_left
          · (intro W hSW; go_simp; (try with_reducible rfl))
          simp only [Act.put, List.setIfInBounds_toArray, List.set_cons_zero, List.set_cons_succ]
          (refine takeW (i := 7) (d := 55) (v := ?_) rfl rfl (by kernel_rfl) (by kernel_rfl) (by kernel_rfl) (fun _ _ _ h => h) (by rfl) ?_ (by assumption) ?_)
          rotate_left
          · (intro W hSW; go_simp; (try with_reducible rfl))
          simp only [Act.put, List.setIfInBounds_toArray, List.set_cons_zero, List.set_cons_succ]
          (refine takeW (i := 8) (d := 56) (v := ?_) rfl rfl (by kernel_rfl) (by kernel_rfl) (by kernel_rfl) (fun _ _ _ h => h) (by rfl) ?_ (by assumption) ?_)
          rotate_left
          · (intro W hSW; go_simp; (try with_reducible rfl))
          simp only [Act.put, List.setIfInBounds_toArray, List.set_cons_zero, List.set_cons_succ]
          refine wpAnyH_ready (rs := [9]) (by kernel_rfl) (by simp) ?_
          refine AllReadyH.cons (i := 9) rfl (fun K hKK => ?_) AllReadyH.nil
          go_simp
          have HD2' := hid (At.new u1 (stC zeroS).toArray 33)
          have HC2' := hid (Ev.bal HC1.out (.cells (stC zeroS).toArray 33))
          have HO2' := hid (own_old HO1.out (Ev.bal (Ev.br u1) (.cells (stC zeroS).toArray 33)))
          have HGe := hid (show w5.heap.size ≤ u1.heap.size from HC1.out.size)
          generalize hA : World.alloc u1 _ = u2 at hKK ⊢
          have HD2 : Hid (At u2 u1.heap.size (stC zeroS).toArray 33) := hid (by rw [← hA]; exact HD2'.out)
          have HC2 : Hid (Below w5.heap.size w5 u2) := hid (by rw [← hA]; exact HC2'.out)
          have HO2 : Hid (u2.ownsRow w5.heap.size 45 9 vq R2.2.1.length (flat ecs R2.2.1)) := hid (by rw [← hA]; exact HO2'.out)
          clear hA HD2' HC2' HO2'
          generalize u1.heap.size = Bq at HD2 HGe ⊢
          refine hKK.out _ _ HC2.out (fun hHeld => ?_)
          clear hKK K
          (try simp only [Act.put, List.setIfInBounds_toArray, List.set_cons_zero, List.set_cons_succ])
          refine wpAnyH_ready (rs := [10]) (by kernel_rfl) (by simp) ?_
          refine AllReadyH.cons (i := 10) rfl (fun K hKK => ?_) AllReadyH.nil
          rw [if_pos (by rfl)]
          refine wp_store_at 33 _ _ rfl Bq 0 (stC R2.1) rfl rfl 33 _ HD2.out (by kernel_rfl) (by show 60 ≤ 60; decide) rfl ?_
          change K (Act.put _ none undef) (u2.setRow Bq (stC R2.1).toArray)
          have HDF := hid (at_row HD2.out (stC R2.1).toArray)
          have HCF := hid (below_row HC2.out HGe.out (stC R2.1).toArray)
          have HOF := hid (own_row HO2.out (at_not_row HD2.out HO2.out (by decide)) (stC R2.1).toArray)
          refine hKK.out _ _ HCF.out (fun hHeld => ?_)
          clear hKK K
          (try simp only [Act.put])
          generalize World.setRow u2 _ _ = uF at HDF HCF HOF hHeld ⊢
          refine wpAnyH_ready (rs := [11]) (by kernel_rfl) (by simp) ?_
          refine AllReadyH.cons (i := 11) rfl (fun K hKK => ?_) AllReadyH.nil
          go_simp
          refine hKK.out _ _ hHeld (fun hHeld => ?_)
          clear hKK K
          (try simp only [Act.put, List.setIfInBounds_toArray, List.set_cons_zero, List.set_cons_succ])
          refine wpAnyH_ready (rs := [12]) (by kernel_rfl) (by simp) ?_
          refine AllReadyH.cons (i := 12) rfl (fun K hKK => ?_) AllReadyH.nil
          go_simp
          refine hKK.out _ _ hHeld (fun hHeld => ?_)
          clear hKK K
          (try simp only [Act.put, List.setIfInBounds_toArray, List.set_cons_zero, List.set_cons_succ])
          refine wpAnyH_done (by kernel_rfl) ?_ _
          refine NoPanic.normal ?_
          go_wp2_with fail
          go_meet
          case rel => exact ⟨Bq, vq, rfl, rfl, rfl, HDF.out, HOF.out, HLe.out, HCF.out⟩
        refine AllReadyH.cons (i := 9) rfl (fun K hKK => ?_) AllReadyH.nil
        go_simp
        have HD3' := hid (At.new u0 (stC zeroS).toArray 33)
        have HC3' := hid (Ev.bal HC0.out (.cells (stC zeroS).toArray 33))
        have HGe := hid (show w5.heap.size ≤ u0.heap.size from HC0.out.size)
        generalize hA : World.alloc u0 _ = u3 at hKK ⊢
        have HD3 : Hid (At u3 u0.heap.size (stC zeroS).toArray 33) := hid (by rw [← hA]; exact HD3'.out)
        have HC3 : Hid (Below w5.heap.size w5 u3) := hid (by rw [← hA]; exact HC3'.out)
        clear hA HD3' HC3'
        generalize u0.heap.size = Bq at HD3 HGe ⊢
        refine hKK.out _ _ HC3.out (fun hHeld => ?_)
        clear hKK K
        (try simp only [Act.put, List.setIfInBounds_toArray, List.set_cons_zero, List.set_cons_succ])
        refine wpAnyH_ready (rs := [4]) (by kernel_rfl) (by simp) ?_
        refine AllReadyH.cons (i := 4) rfl (fun K hKK => ?_) AllReadyH.nil
        go_simp
        (refine (HRun2.out _ (Ev.bt HB4'.out HC3.out)).mono ?_)
        rintro e u4 ⟨vq, rfl, ho, g4, hle⟩
        have HO4 := hid (Ev.owns_base ho HC3.out.size)
        have HLe := hid hle
        clear ho hle
        have HC4 := hid (Ev.bt HC3.out g4)
        have HD4 := hid (HD3.out.below g4)
        dsimp only
        refine hKK.out _ _ HC4.out (fun hHeld => ?_)
        clear hKK K
        (try simp only [Act.put, List.setIfInBounds_toArray, List.set_cons_zero, List.set_cons_succ])
        (refine takeW (i := 5) (d := 48) (v := ?_) rfl rfl (by kernel_rfl) (by kernel_rfl) (by kernel_rfl) (fun _ _ _ h => h) (by rfl) ?_ (by assumption) ?_)
        rotate_left
        · (intro W hSW; go_simp; (try with_reducible rfl))
        simp only [Act.put, List.setIfInBounds_toArray, List.set_cons_zero, List.set_cons_succ]
        (refine takeW (i := 6) (d := 54) (v := ?_) rfl rfl (by kernel_rfl) (by kernel_rfl) (by kernel_rfl) (fun _ _ _ h => h) (by rfl) ?_ (by assumption) ?_)
        rotate_left
        · (intro W hSW; go_simp; (try with_reducible rfl))
        simp only [Act.put, List.setIfInBounds_toArray, List.set_cons_zero, List.set_cons_succ]
        (refine takeW (i := 7) (d := 55) (v := ?_) rfl rfl (by kernel_rfl) (by kernel_rfl) (by kernel_rfl) (fun _ _ _ h => h) (by rfl) ?_ (by assumption) ?_)
        rotate_left
        · (intro W hSW; go_simp; (try with_reducible rfl))
        simp only [Act.put, List.setIfInBounds_toArray, List.set_cons_zero, List.set_cons_succ]
        (refine takeW (i := 8) (d := 56) (v := ?_) rfl rfl (by kernel_rfl) (by kernel_rfl) (by kernel_rfl) (fun _ _ _ h => h) (by rfl) ?_ (by assumption) ?_)
        rotate_left
        · (intro W hSW; go_simp; (try with_reducible rfl))
        simp only [Act.put, List.setIfInBounds_toArray, List.set_cons_zero, List.set_cons_succ]
        refine wpAnyH_ready (rs := [10]) (by kernel_rfl) (by simp) ?_
        refine AllReadyH.cons (i := 10) rfl (fun K hKK => ?_) AllReadyH.nil
        rw [if_pos (by rfl)]
        refine wp_store_at 33 _ _ rfl Bq 0 (stC R2.1) rfl rfl 33 _ HD4.out (by kernel_rfl) (by show 60 ≤ 60; decide) rfl ?_
        change K (Act.put _ none undef) (u4.setRow Bq (stC R2.1).toArray)
        have HDF := hid (at_row HD4.out (stC R2.1).toArray)
        have HCF := hid (below_row HC4.out HGe.out (stC R2.1).toArray)
        have HOF := hid (own_row HO4.out (at_not_row HD4.out HO4.out (by decide)) (stC R2.1).toArray)
        refine hKK.out _ _ HCF.out (fun hHeld => ?_)
        clear hKK K
        (try simp only [Act.put])
        generalize World.setRow u4 _ _ = uF at HDF HCF HOF hHeld ⊢
        refine wpAnyH_ready (rs := [11]) (by kernel_rfl) (by simp) ?_
        refine AllReadyH.cons (i := 11) rfl (fun K hKK => ?_) AllReadyH.nil
        go_simp
        refine hKK.out _ _ hHeld (fun hHeld => ?_)
        clear hKK K
        (try simp only [Act.put, List.setIfInBounds_toArray, List.set_cons_zero, List.set_cons_succ])
        refine wpAnyH_ready (rs := [12]) (by kernel_rfl) (by simp) ?_
        refine AllReadyH.cons (i := 12) rfl (fun K hKK => ?_) AllReadyH.nil
        go_simp
        refine hKK.out _ _ hHeld (fun hHeld => ?_)
        clear hKK K
        (try simp only [Act.put, List.setIfInBounds_toArray, List.set_cons_zero, List.set_cons_succ])
        refine wpAnyH_done (by kernel_rfl) ?_ _
        refine NoPanic.normal ?_
        go_wp2_with fail
        go_meet
        case rel => exact ⟨Bq, vq, rfl, rfl, rfl, HDF.out, HOF.out, HLe.out, HCF.out⟩
      case rest =>
        obtain ⟨C, vc, rfl, evc, rfl, hN, hO, hLe, hB⟩ := hcut
        obtain rfl := evc.symm
        have HN6 := hid hN
        have HX6 := hid (HX4.out.below hB)
        have HOb := hid (own_old HO5.out hB)
        have HVc := hid (Ev.owns_sl (enc := ecs) (k := 9) (fun _ => rfl) hO)
        have HB46 := hid (Ev.bt HB45.out hB)
        have HB6 := hid (Ev.bt HB5.out hB)
        have HLb : Hid (R1.2.1.length ≤ 1000000 ∧ R2.2.1.length ≤ 1000000) := hid (by
          have h1 := HL5.out
          have h2 := HL.out
          rw [List.length_take] at h1
          rw [List.length_drop] at hLe
          exact ⟨by omega, by omega⟩)
        clear hN hO hLe hB HX4 HO5 HB45 HB5 HN5 HA5 HRun2 HL5
        obtain ⟨w6, hw6⟩ : ∃ x, x = wc := ⟨_, rfl⟩
        subst hw6
        obtain ⟨S0, l0, e0⟩ := R0
        obtain ⟨S1, l1, e1⟩ := R1
        obtain ⟨S2, l2, e2⟩ := R2
        dsimp only at HP HX6 HN6 HOb HVc HLb HV4 ⊢
        obtain ⟨hl1, hl2⟩ := HLb.out
        have hw46 := HB46.out.size
        by_cases he0 : e0 = 0
        · obtain ⟨p1, p2, p3, p4⟩ := HP.out.2 he0
          subst he0; subst p1; subst p2; subst p3; subst p4
          have hq : ∀ W : World, (binOp .eql 33 (.agg (stC S2).toArray) (.agg (stC S2).toArray)).run Tryd.prog W = .ok (.bool true) W := fun W => by
            have := eqS S2 S2 W
            rw [decide_eq_true rfl] at this
            exact this
          go_wp2_with (first
            | (refine wpList_load_atg (by rfl) 33 _ rfl C 0 rfl 33 _ (stC S2) (0, 0) _ HN6.out Tryd.underlying33 rfl (by kernel_rfl) (stC_self S2) ?_)
            | (refine wpList_load_atg (by rfl) 33 _ rfl N0 0 rfl 33 _ (stC S2) (0, 0) _ HX6.out Tryd.underlying33 rfl (by kernel_rfl) (stC_self S2) ?_)
            | go_loud (at_builtin; refine app_evsg _ (by rfl) (.tmp 77) (.tmp 78) rfl w4.heap.size vb l1 rfl HOb.out vc l2 HVc.out rfl hl1 hl2 hw46 ?_; intro v' w7 ho hg; have HV7 := hid (Ev.owns_sl (enc := ecs) (k := 9) (fun _ => rfl) ho); have HB7 := hid (HB46.out.grown hg hw46 (fun k e => (HOb.out.lt k e).1)); clear ho hg)
            | (go_at_call 10; ((refine (Ev.rsame_c v' va (l1 ++ l2) (l1 ++ l2) _ HV7.out (HV4.out.below HB7.out)).mono ?_); rintro e w8 ⟨rfl, g8⟩; rw [decide_eq_true rfl]; have HB8 := hid (Ev.bt HB7.out g8.below); clear g8)))
          go_ret
          exact ⟨rfl, Ev.bt HBw4.out HB8.out⟩
        · have hne0 : (e0 == 0) = false := by simp [he0]
          have hnx0 : (e0 != 0) = true := by simp [he0]
          have hor := HP.out.1 he0
          clear HP
          by_cases he1 : e1 = 0
          · have he2 : e2 ≠ 0 := by
              rcases hor with h | h
              · exact absurd he1 h
              · exact h
            subst he1
            have hne2 : (e2 == 0) = false := by simp [he2]
            have hnx2 : (e2 != 0) = true := by simp [he2]
            clear hor
            go_wp2_with fail
            go_ret
            exact ⟨rfl, HB6.out⟩
          · have hne1 : (e1 == 0) = false := by simp [he1]
            have hnx1 : (e1 != 0) = true := by simp [he1]
            clear hor
            go_wp2_with fail
            go_ret
            exact ⟨rfl, HB6.out⟩

end Go.Proofs.YtoogcbniphoaoaaDoor.Gm
