/- The walk of GameStays (layer 12, game). -/
import Derived.Test.YtoogcbniphoaoaaDoorGmRun
import Derived.Deep.DeepCutAuto
import Derived.Deep.RegionWith
namespace Go.Proofs.YtoogcbniphoaoaaDoor.Gm
open Go.RowKit Go.Proofs.YtoogcbniphoaoaaDoor.Fx Go.Proofs.YtoogcbniphoaoaaDoor.Tg Go.Proofs.YtoogcbniphoaoaaDoor.Dc
open Go.Proofs.YtoogcbniphoaoaaDoor.Ev (Ev Ky addR pageI At ecs Pg Evs)
open Go.Proofs.YtoogcbniphoaoaaDoor.Sh (In32 vec box insideB touchB slI mvP mvV wallI)
set_option linter.unusedVariables false

theorem tm_bd {a : Int} (h : 0 ≤ a ∧ a ≤ 255) : 0 ≤ a.tmod 64 ∧ a.tmod 64 ≤ 63 := by
  rw [Int.tmod_eq_emod_of_nonneg h.1]
  omega

set_option maxRecDepth 100000 in
set_option maxHeartbeats 4000000 in
theorem stays_w (s : St) (v : Value) (l : List (Int × Int)) (w : World) (htab : Tab w) (hty : tyS s) (h : Ins w v l) (hb : ∀ x, x ∈ l → (0 ≤ x.1 ∧ x.1 ≤ 255) ∧ 0 ≤ x.2 ∧ x.2 ≤ 255) :
    Calls Tryd.prog 3 #[.agg (stC s).toArray, v] w fun e w' => e = .returned (.bool true) ∧ Below w.heap.size w w' := by
  have HA := hid (At.new w (stC s).toArray 33)
  have HB := hid (Ev.bal (Ev.br w) (.cells (stC s).toArray 33))
  have HTy := hid hty
  have HI := hid h
  have HBd := hid hb
  obtain ⟨ao, L, cap, rfl, hL, hc, hm, ht⟩ := h
  have HL := hid hL
  have HT := hid ht
  have HTb := hid htab
  clear hL ht htab hty hb
  generalize hC : stC s = cs at HA HB
  go_enter Tryd.func3, Tryd.ntmps3
  go_upto_region 1 with fail
  subst hC
  generalize World.alloc w _ = w0 at HA HB ⊢
  have HAw := hid (awake_c w0 (HTb.out.below HTb.out.lt HB.out))
  go_upto_region 3 with (go_at_call 5; ((with_reducible refine HAw.out.mono ?_); rintro e w1 ⟨rfl, g1⟩; have HA1 := hid (HA.out.below g1); have HB1 := hid (Ev.bt HB.out g1); clear g1))
  clear HAw HA HB
  by_cases q1 : (100 : Int) < (L : Int)
  · go_wp2_with fail
    go_ret
    exact ⟨rfl, HB1.out⟩
  cases hr : rightS s
  · go_wp2_with (first
      | (refine wpList_load_atg (by rfl) 33 _ rfl w.heap.size 0 rfl 33 _ (stC s) (0, 0) _ HA1.out Tryd.underlying33 rfl (by kernel_rfl) (stC_self s) ?_)
      | (go_at_call 6; ((with_reducible refine (right_c _ _).mono ?_); rintro e w2 ⟨rfl, g2⟩; rw [hr]; have HB2 := hid (Ev.bt HB1.out g2))))
    go_ret
    exact ⟨rfl, HB2.out⟩
  have HMs := hid (right_ms hr HTy.out)
  by_cases q3 : 1000000 < s.rd
  · go_wp2_with (first
      | (refine wpList_load_atg (by rfl) 33 _ rfl w.heap.size 0 rfl 33 _ (stC s) (0, 0) _ HA1.out Tryd.underlying33 rfl (by kernel_rfl) (stC_self s) ?_)
      | (go_at_call 6; ((with_reducible refine (right_c _ _).mono ?_); rintro e w2 ⟨rfl, g2⟩; rw [hr]; have HB2 := hid (Ev.bt HB1.out g2); obtain ⟨c0, c1, c2, c3⟩ := at_st (HA1.out.below g2))))
    go_ret
    exact ⟨rfl, HB2.out⟩
  by_cases q4 : 1000000 < s.fr
  · go_wp2_with (first
      | (refine wpList_load_atg (by rfl) 33 _ rfl w.heap.size 0 rfl 33 _ (stC s) (0, 0) _ HA1.out Tryd.underlying33 rfl (by kernel_rfl) (stC_self s) ?_)
      | (go_at_call 6; ((with_reducible refine (right_c _ _).mono ?_); rintro e w2 ⟨rfl, g2⟩; rw [hr]; have HB2 := hid (Ev.bt HB1.out g2); obtain ⟨c0, c1, c2, c3⟩ := at_st (HA1.out.below g2))))
    go_ret
    exact ⟨rfl, HB2.out⟩
  go_wp2_with (first
    | (refine wpList_load_atg (by rfl) 33 _ rfl w.heap.size 0 rfl 33 _ (stC s) (0, 0) _ HA1.out Tryd.underlying33 rfl (by kernel_rfl) (stC_self s) ?_)
    | (go_at_call 6; ((with_reducible refine (right_c _ _).mono ?_); rintro e w2 ⟨rfl, g2⟩; rw [hr]; have HB2 := hid (Ev.bt HB1.out g2); have HA2 := hid (HA1.out.below g2); clear HA1; obtain ⟨c0, c1, c2, c3⟩ := at_st HA2.out)))
  clear c0 c1 c2 c3 hr
  have hL100 : L ≤ 100 := by omega
  have HQ := hid (And.intro q3 q4)
  clear q1 q3 q4
  go_loopw [5] (fun i wr => ∃ (k : Nat) (S : St), k ≤ L ∧ i = .int .i64 k ∧ At wr w.heap.size (stC S).toArray 33 ∧ Below w.heap.size w wr ∧ Ms 2 S ∧ S.fr = s.fr + k ∧ S.rd ≤ s.rd + k) (fun i _ => L - (intOf i).toNat)
  case atStart => exact ⟨0, s, Nat.zero_le _, rfl, HA2.out, HB2.out, HMs.out, by simp, by simp⟩
  case round =>
    obtain ⟨k, S, hk, rfl, hAt, hBe, hMs, hfr, hrd⟩ := hrel
    have HA3 := hid hAt
    have HB3 := hid hBe
    have HM3 := hid hMs
    have HF3 := hid (And.intro hfr hrd)
    clear hAt hBe hMs hfr hrd
    by_cases hlt : k < L
    · obtain ⟨x, hx⟩ := Ev.get_lt HL.out hlt
      have HXb := hid (HBd.out x (List.mem_of_getElem? hx))
      obtain ⟨b, o, rfl, hbl, c0, c1⟩ := row_in (HT.out.below HB3.out) hx
      clear hx
      have hk1 : (k : Int) < (L : Int) := by omega
      have hk0 : (0 : Int) ≤ (k : Int) := by omega
      obtain ⟨hx0, hx1⟩ := HXb.out
      have hfr3 := HM3.out.fr
      have HSt := hid (fun W (g : Below wr.heap.size wr W) => step_c S (x.1.tmod 64) (x.2.tmod 64) W (HTb.out.below HTb.out.lt (Ev.bt HB3.out g)) (ms_ty HM3.out) (ms_right HM3.out) (tm_bd hx0) (tm_bd hx1) (by have := HF3.out.1; have := HQ.out; omega))
      have HN : Hid (Ms 2 (stepP S (x.1.tmod 64) (x.2.tmod 64)).1 ∧ (stepP S (x.1.tmod 64) (x.2.tmod 64)).1.fr = S.fr + 1 ∧ (stepP S (x.1.tmod 64) (x.2.tmod 64)).1.rd ≤ S.rd + 1) := hid (by
        have h1 := HF3.out
        have h2 := HQ.out
        exact ⟨step_ok HM3.out (by omega) (by omega) _ _, step_fr _ _ _, (step_rd _ _ _).1⟩)
      generalize stepP S (x.1.tmod 64) (x.2.tmod 64) = q at HSt HN
      obtain ⟨S', kn⟩ := q
      dsimp only at HSt HN
      clear hfr3
      go_upto_region 8 with fail
      clear hx0 hx1
      go_cut [6, 7, 8] from 30 to 85 (fun s6 s7 s8 wx => ∃ B v, s6 = .pointer (some ⟨B, 0, none⟩) ∧ s7 = v ∧ s8 = .int .i64 0 ∧ At wx B (stC S').toArray 33 ∧ wr.heap.size ≤ B ∧ Evs wx v kn ∧ pageI S.fr kn ∧ (∀ k, v.ownBlock = some k → wr.heap.size ≤ k) ∧ Below wr.heap.size wr wx)
      case first =>
        have hK := hid (fun W (g : Below wr.heap.size wr W) => And.intro ((g.cell (p := ⟨b, o + k * 2, none⟩) hbl).trans c0) ((g.cell (p := ⟨b, o + k * 2 + 1, none⟩) hbl).trans c1))
        have HB0 := hid (Ev.bd1 (Ev.br wr))
        refine wp_region_noPanic ?_
        refine wp_region_held_drew (S := (fun W => Below wr.heap.size wr W)) (by kernel_rfl) HB0.out (fun hHeld => ?_)
        generalize World.drew wr = u0 at HB0 hHeld ⊢
        (refine takeW (i := 0) (d := 37) (v := .agg (stC S).toArray) rfl rfl (by kernel_rfl) (by kernel_rfl) (by kernel_rfl) (fun _ _ _ h => h) (by rfl) ?_ (by assumption) ?_)
        · (intro W hSW; exact exec_load_at W 33 _ rfl w.heap.size 0 rfl 33 _ (stC S) (0, 0) _ (HA3.out.below hSW) Tryd.underlying33 rfl (by kernel_rfl) (stC_self S))
        simp only [Act.put, List.setIfInBounds_toArray, List.set_cons_zero, List.set_cons_succ]
        (refine takeW (i := 1) (d := 38) (v := ?_) rfl rfl (by kernel_rfl) (by kernel_rfl) (by kernel_rfl) (fun _ _ _ h => h) (by rfl) ?_ (by assumption) ?_)
        rotate_left
        · (intro W hSW; go_simp; (try with_reducible rfl))
        simp only [Act.put, List.setIfInBounds_toArray, List.set_cons_zero, List.set_cons_succ]
        (refine takeW (i := 2) (d := 39) (v := ?_) rfl rfl (by kernel_rfl) (by kernel_rfl) (by kernel_rfl) (fun _ _ _ h => h) (by rfl) ?_ (by assumption) ?_)
        rotate_left
        · (intro W hSW; go_simp; (try with_reducible rfl))
        simp only [Act.put, List.setIfInBounds_toArray, List.set_cons_zero, List.set_cons_succ]
        (refine takeW (i := 3) (d := 40) (v := ?_) rfl rfl (by kernel_rfl) (by kernel_rfl) (by kernel_rfl) (fun _ _ _ h => h) (by rfl) ?_ (by assumption) ?_)
        rotate_left
        · (intro W hSW; go_simp; (try with_reducible rfl))
        simp only [Act.put, List.setIfInBounds_toArray, List.set_cons_zero, List.set_cons_succ]
        (refine takeW (i := 4) (d := 41) (v := ?_) rfl rfl (by kernel_rfl) (by kernel_rfl) (by kernel_rfl) (fun _ _ _ h => h) (by rfl) ?_ (by assumption) ?_)
        rotate_left
        · (intro W hSW; go_simp; (try with_reducible rfl))
        simp only [Act.put, List.setIfInBounds_toArray, List.set_cons_zero, List.set_cons_succ]
        (refine takeW (i := 5) (d := 42) (v := ?_) rfl rfl (by kernel_rfl) (by kernel_rfl) (by kernel_rfl) (fun _ _ _ h => h) (by rfl) ?_ (by assumption) ?_)
        rotate_left
        · (intro W hSW; have hSW2 := hK.out W hSW; go_simp; (try with_reducible rfl))
        simp only [Act.put, List.setIfInBounds_toArray, List.set_cons_zero, List.set_cons_succ]
        (refine takeW (i := 6) (d := 43) (v := ?_) rfl rfl (by kernel_rfl) (by kernel_rfl) (by kernel_rfl) (fun _ _ _ h => h) (by rfl) ?_ (by assumption) ?_)
        rotate_left
        · (intro W hSW; go_simp; (try with_reducible rfl))
        simp only [Act.put, List.setIfInBounds_toArray, List.set_cons_zero, List.set_cons_succ]
        (refine takeW (i := 7) (d := 44) (v := ?_) rfl rfl (by kernel_rfl) (by kernel_rfl) (by kernel_rfl) (fun _ _ _ h => h) (by rfl) ?_ (by assumption) ?_)
        rotate_left
        · (intro W hSW; go_simp; (try with_reducible rfl))
        simp only [Act.put, List.setIfInBounds_toArray, List.set_cons_zero, List.set_cons_succ]
        (refine takeW (i := 8) (d := 45) (v := ?_) rfl rfl (by kernel_rfl) (by kernel_rfl) (by kernel_rfl) (fun _ _ _ h => h) (by rfl) ?_ (by assumption) ?_)
        rotate_left
        · (intro W hSW; go_simp; (try with_reducible rfl))
        simp only [Act.put, List.setIfInBounds_toArray, List.set_cons_zero, List.set_cons_succ]
        (refine takeW (i := 9) (d := 46) (v := ?_) rfl rfl (by kernel_rfl) (by kernel_rfl) (by kernel_rfl) (fun _ _ _ h => h) (by rfl) ?_ (by assumption) ?_)
        rotate_left
        · (intro W hSW; go_simp; (try with_reducible rfl))
        simp only [Act.put, List.setIfInBounds_toArray, List.set_cons_zero, List.set_cons_succ]
        (refine takeW (i := 10) (d := 47) (v := ?_) rfl rfl (by kernel_rfl) (by kernel_rfl) (by kernel_rfl) (fun _ _ _ h => h) (by rfl) ?_ (by assumption) ?_)
        rotate_left
        · (intro W hSW; go_simp; (try with_reducible rfl))
        simp only [Act.put, List.setIfInBounds_toArray, List.set_cons_zero, List.set_cons_succ]
        (refine takeW (i := 11) (d := 48) (v := ?_) rfl rfl (by kernel_rfl) (by kernel_rfl) (by kernel_rfl) (fun _ _ _ h => h) (by rfl) ?_ (by assumption) ?_)
        rotate_left
        · (intro W hSW; have hSW2 := hK.out W hSW; go_simp; (try with_reducible rfl))
        simp only [Act.put, List.setIfInBounds_toArray, List.set_cons_zero, List.set_cons_succ]
        (refine takeW (i := 12) (d := 49) (v := ?_) rfl rfl (by kernel_rfl) (by kernel_rfl) (by kernel_rfl) (fun _ _ _ h => h) (by rfl) ?_ (by assumption) ?_)
        rotate_left
        · (intro W hSW; go_simp; (try with_reducible rfl))
        simp only [Act.put, List.setIfInBounds_toArray, List.set_cons_zero, List.set_cons_succ]
        (refine takeW (i := 13) (d := 50) (v := ?_) rfl rfl (by kernel_rfl) (by kernel_rfl) (by kernel_rfl) (fun _ _ _ h => h) (by rfl) ?_ (by assumption) ?_)
        rotate_left
        · (intro W hSW; go_simp; (try with_reducible rfl))
        simp only [Act.put, List.setIfInBounds_toArray, List.set_cons_zero, List.set_cons_succ]
        refine wpAnyH_ready (rs := [14, 19]) (by kernel_rfl) (by simp) ?_
        refine AllReadyH.cons (i := 14) rfl (fun K hKK => ?_) ?_
        · have HBo := HB0
          go_simp
          (with_reducible refine (HSt.out _ HB0.out).mono ?_)
          rintro e u1 ⟨v, rfl, hv, g1, hp, ho⟩
          have HV1 := hid hv
          have HP := hid hp
          have HO := hid ho
          clear hv hp ho
          have HB1 := hid (Ev.bt HB0.out g1)
          dsimp only
          refine hKK.out _ _ HB1.out (fun hHeld => ?_)
          clear hKK K
          (try simp only [Act.put, List.setIfInBounds_toArray, List.set_cons_zero, List.set_cons_succ])
          (refine takeW (i := 15) (d := 36) (v := ?_) rfl rfl (by kernel_rfl) (by kernel_rfl) (by kernel_rfl) (fun _ _ _ h => h) (by rfl) ?_ (by assumption) ?_)
          rotate_left
          · (intro W hSW; go_simp; (try with_reducible rfl))
          simp only [Act.put, List.setIfInBounds_toArray, List.set_cons_zero, List.set_cons_succ]
          (refine takeW (i := 16) (d := 52) (v := ?_) rfl rfl (by kernel_rfl) (by kernel_rfl) (by kernel_rfl) (fun _ _ _ h => h) (by rfl) ?_ (by assumption) ?_)
          rotate_left
          · (intro W hSW; go_simp; (try with_reducible rfl))
          simp only [Act.put, List.setIfInBounds_toArray, List.set_cons_zero, List.set_cons_succ]
          (refine takeW (i := 17) (d := 53) (v := ?_) rfl rfl (by kernel_rfl) (by kernel_rfl) (by kernel_rfl) (fun _ _ _ h => h) (by rfl) ?_ (by assumption) ?_)
          rotate_left
          · (intro W hSW; go_simp; (try with_reducible rfl))
          simp only [Act.put, List.setIfInBounds_toArray, List.set_cons_zero, List.set_cons_succ]
          (refine takeW (i := 18) (d := 54) (v := ?_) rfl rfl (by kernel_rfl) (by kernel_rfl) (by kernel_rfl) (fun _ _ _ h => h) (by rfl) ?_ (by assumption) ?_)
          rotate_left
          · (intro W hSW; go_simp; (try with_reducible rfl))
          simp only [Act.put, List.setIfInBounds_toArray, List.set_cons_zero, List.set_cons_succ]
          refine wpAnyH_ready (rs := [19]) (by kernel_rfl) (by simp) ?_
          refine AllReadyH.cons (i := 19) rfl (fun K hKK => ?_) AllReadyH.nil
          have HVc := HV1
          go_simp
          have HN2 := hid (At.new u1 (stC zeroS).toArray 33)
          have HB2 := hid (Ev.bal HB1.out (.cells (stC zeroS).toArray 33))
          have HV2 := hid (HV1.out.below (Ev.bal (Ev.br u1) (.cells (stC zeroS).toArray 33)))
          have HGe := hid (show wr.heap.size ≤ u1.heap.size from HB1.out.size)
          generalize hA : World.alloc u1 _ = u2 at hKK ⊢
          have HN2' : Hid (At u2 u1.heap.size (stC zeroS).toArray 33) := hid (by rw [← hA]; exact HN2.out)
          have HB2' : Hid (Below wr.heap.size wr u2) := hid (by rw [← hA]; exact HB2.out)
          have HV2' : Hid (Evs u2 v kn) := hid (by rw [← hA]; exact HV2.out)
          have hA0 := hA
          clear hA HN2 HB2 HV2
          have HN2 := HN2'
          have HB2 := HB2'
          have HV2 := HV2'
          have HBc' : Hid (Below u1.heap.size u1 u2) := hid (by rw [← hA0]; exact Ev.bal (Ev.br u1) _)
          have HGb' := hid (Nat.le_refl u1.heap.size)
          have HBc := hid (show Below u1.heap.size u1 u2 from HBc'.out)
          obtain ⟨B, hBe⟩ : ∃ B, B = u1.heap.size := ⟨_, rfl⟩
          have HGb := hid (show u1.heap.size ≤ B from Nat.le_of_eq hBe.symm)
          rw [← hBe] at HN2 HGe ⊢
          clear hBe HBc' HGb' hA0
          refine hKK.out _ _ HB2.out (fun hHeld => ?_)
          clear hKK K
          (try simp only [Act.put, List.setIfInBounds_toArray, List.set_cons_zero, List.set_cons_succ])
          refine wpAnyH_ready (rs := [20]) (by kernel_rfl) (by simp) ?_
          refine AllReadyH.cons (i := 20) rfl (fun K hKK => ?_) AllReadyH.nil
          rw [if_pos (by rfl)]
          refine wp_store_at 33 _ _ rfl B 0 (stC S') rfl rfl 33 _ HN2.out (by kernel_rfl) (by show 60 ≤ 60; decide) rfl ?_
          change K (Act.put _ none undef) _
          have HNF := hid (at_row HN2.out (stC S').toArray)
          have HBF := hid (below_row HB2.out HGe.out (stC S').toArray)
          have HVF := hid (HVc.out.below (below_row HBc.out HGb.out (stC S').toArray))
          refine hKK.out _ _ HBF.out (fun hHeld => ?_)
          clear hKK K
          (try simp only [Act.put])
          change wpAnyH _ _ _ _ _ _ _ _ (u2.setRow B (stC S').toArray)
          change Below wr.heap.size wr (u2.setRow B (stC S').toArray) at hHeld
          generalize World.setRow u2 _ _ = uF at HNF HBF HVF hHeld ⊢
          refine wpAnyH_ready (rs := [21]) (by kernel_rfl) (by simp) ?_
          refine AllReadyH.cons (i := 21) rfl (fun K hKK => ?_) AllReadyH.nil
          go_simp
          refine hKK.out _ _ hHeld (fun hHeld => ?_)
          clear hKK K
          (try simp only [Act.put, List.setIfInBounds_toArray, List.set_cons_zero, List.set_cons_succ])
          refine wpAnyH_ready (rs := [22]) (by kernel_rfl) (by simp) ?_
          refine AllReadyH.cons (i := 22) rfl (fun K hKK => ?_) AllReadyH.nil
          go_simp
          refine hKK.out _ _ hHeld (fun hHeld => ?_)
          clear hKK K
          (try simp only [Act.put, List.setIfInBounds_toArray, List.set_cons_zero, List.set_cons_succ])
          refine wpAnyH_done (by kernel_rfl) ?_ _
          refine NoPanic.normal ?_
          go_wp2_with fail
          go_meet
          case rel => exact ⟨B, v, rfl, rfl, rfl, HNF.out, HGe.out, HVF.out, HP.out, fun k e => Nat.le_trans HBo.out.size (HO.out k e), HBF.out⟩
        refine AllReadyH.cons (i := 19) rfl (fun K hKK => ?_) AllReadyH.nil
        go_simp
        have HN3 := hid (At.new u0 (stC zeroS).toArray 33)
        have HB3 := hid (Ev.bal HB0.out (.cells (stC zeroS).toArray 33))
        have HGe := hid (show wr.heap.size ≤ u0.heap.size from HB0.out.size)
        generalize hA : World.alloc u0 _ = u3 at hKK ⊢
        have HN3' : Hid (At u3 u0.heap.size (stC zeroS).toArray 33) := hid (by rw [← hA]; exact HN3.out)
        have HB3' : Hid (Below wr.heap.size wr u3) := hid (by rw [← hA]; exact HB3.out)
        skip
        clear hA HN3 HB3
        have HN3 := HN3'
        have HB3 := HB3'
        generalize u0.heap.size = B at HN3 HGe ⊢
        refine hKK.out _ _ HB3.out (fun hHeld => ?_)
        clear hKK K
        (try simp only [Act.put, List.setIfInBounds_toArray, List.set_cons_zero, List.set_cons_succ])
        refine wpAnyH_ready (rs := [14]) (by kernel_rfl) (by simp) ?_
        refine AllReadyH.cons (i := 14) rfl (fun K hKK => ?_) AllReadyH.nil
        have HBo := HB3
        have HNc := HN3
        go_simp
        (with_reducible refine (HSt.out _ HB3.out).mono ?_)
        rintro e u4 ⟨v, rfl, hv, g4, hp, ho⟩
        have HV4 := hid hv
        have HP := hid hp
        have HO := hid ho
        clear hv hp ho
        have HB4 := hid (Ev.bt HB3.out g4)
        have HN4 := hid (HN3.out.below g4)
        dsimp only
        refine hKK.out _ _ HB4.out (fun hHeld => ?_)
        clear hKK K
        (try simp only [Act.put, List.setIfInBounds_toArray, List.set_cons_zero, List.set_cons_succ])
        (refine takeW (i := 15) (d := 36) (v := ?_) rfl rfl (by kernel_rfl) (by kernel_rfl) (by kernel_rfl) (fun _ _ _ h => h) (by rfl) ?_ (by assumption) ?_)
        rotate_left
        · (intro W hSW; go_simp; (try with_reducible rfl))
        simp only [Act.put, List.setIfInBounds_toArray, List.set_cons_zero, List.set_cons_succ]
        (refine takeW (i := 16) (d := 52) (v := ?_) rfl rfl (by kernel_rfl) (by kernel_rfl) (by kernel_rfl) (fun _ _ _ h => h) (by rfl) ?_ (by assumption) ?_)
        rotate_left
        · (intro W hSW; go_simp; (try with_reducible rfl))
        simp only [Act.put, List.setIfInBounds_toArray, List.set_cons_zero, List.set_cons_succ]
        (refine takeW (i := 17) (d := 53) (v := ?_) rfl rfl (by kernel_rfl) (by kernel_rfl) (by kernel_rfl) (fun _ _ _ h => h) (by rfl) ?_ (by assumption) ?_)
        rotate_left
        · (intro W hSW; go_simp; (try with_reducible rfl))
        simp only [Act.put, List.setIfInBounds_toArray, List.set_cons_zero, List.set_cons_succ]
        (refine takeW (i := 18) (d := 54) (v := ?_) rfl rfl (by kernel_rfl) (by kernel_rfl) (by kernel_rfl) (fun _ _ _ h => h) (by rfl) ?_ (by assumption) ?_)
        rotate_left
        · (intro W hSW; go_simp; (try with_reducible rfl))
        simp only [Act.put, List.setIfInBounds_toArray, List.set_cons_zero, List.set_cons_succ]
        refine wpAnyH_ready (rs := [20]) (by kernel_rfl) (by simp) ?_
        refine AllReadyH.cons (i := 20) rfl (fun K hKK => ?_) AllReadyH.nil
        rw [if_pos (by rfl)]
        refine wp_store_at 33 _ _ rfl B 0 (stC S') rfl rfl 33 _ HN4.out (by kernel_rfl) (by show 60 ≤ 60; decide) rfl ?_
        change K (Act.put _ none undef) _
        have HNF := hid (at_row HN4.out (stC S').toArray)
        have HBF := hid (below_row HB4.out HGe.out (stC S').toArray)
        have HVF := hid (evs_row HV4.out (fun k e => Nat.ne_of_gt (Nat.lt_of_lt_of_le HNc.out.lt (HO.out k e))) (stC S').toArray)
        refine hKK.out _ _ HBF.out (fun hHeld => ?_)
        clear hKK K
        (try simp only [Act.put])
        change wpAnyH _ _ _ _ _ _ _ _ (u4.setRow B (stC S').toArray)
        change Below wr.heap.size wr (u4.setRow B (stC S').toArray) at hHeld
        generalize World.setRow u4 _ _ = uF at HNF HBF HVF hHeld ⊢
        refine wpAnyH_ready (rs := [21]) (by kernel_rfl) (by simp) ?_
        refine AllReadyH.cons (i := 21) rfl (fun K hKK => ?_) AllReadyH.nil
        go_simp
        refine hKK.out _ _ hHeld (fun hHeld => ?_)
        clear hKK K
        (try simp only [Act.put, List.setIfInBounds_toArray, List.set_cons_zero, List.set_cons_succ])
        refine wpAnyH_ready (rs := [22]) (by kernel_rfl) (by simp) ?_
        refine AllReadyH.cons (i := 22) rfl (fun K hKK => ?_) AllReadyH.nil
        go_simp
        refine hKK.out _ _ hHeld (fun hHeld => ?_)
        clear hKK K
        (try simp only [Act.put, List.setIfInBounds_toArray, List.set_cons_zero, List.set_cons_succ])
        refine wpAnyH_done (by kernel_rfl) ?_ _
        refine NoPanic.normal ?_
        go_wp2_with fail
        go_meet
        case rel => exact ⟨B, v, rfl, rfl, rfl, HNF.out, HGe.out, HVF.out, HP.out, fun k e => Nat.le_trans HBo.out.size (HO.out k e), HBF.out⟩
      case rest =>
        obtain ⟨B, v, rfl, rfl, rfl, hN, hGe, hV, hP, hO, hB⟩ := hcut
        have HN4 := hid hN
        have HV4 := hid hV
        have HP4 := hid hP
        have HA4 := hid (HA3.out.below hB)
        have HB4 := hid (Ev.bt HB3.out hB)
        have hne : B ≠ w.heap.size := Nat.ne_of_gt (Nat.lt_of_lt_of_le HA3.out.lt hGe)
        have HNE := hid hne
        clear hN hV hP hB hO hne hGe HA3 HB3 c0 c1 HSt
        have hrS : rightS S' = true := ms_right HN.out.1
        obtain ⟨hf0, hf1⟩ : 0 ≤ S.fr ∧ S.fr < 1073741824 := ⟨HM3.out.fr.1, by have := HF3.out.1; have := HQ.out; omega⟩
        go_upto_region 11 with (first
          | (refine wpList_load_atg (by rfl) 33 _ rfl B 0 rfl 33 _ (stC S') (0, 0) _ HN4.out Tryd.underlying33 rfl (by kernel_rfl) (stC_self S') ?_)
          | (go_at_call 6; ((with_reducible refine (right_c _ _).mono ?_); rintro e w5 ⟨rfl, g5⟩; rw [hrS]; have HN5 := hid (HN4.out.below g5); have HV5 := hid (HV4.out.below g5); have HA5 := hid (HA4.out.below g5); have HB5 := hid (Ev.bt HB4.out g5); have d0 : w5.cell? ⟨B, 0, none⟩ = some (.int .i64 (S.fr + 1)) := (by rw [← HN.out.2.1]; exact st_cell HN5.out 0); have c0 : w5.cell? ⟨w.heap.size, 0, none⟩ = some (.int .i64 S.fr) := st_cell HA5.out 0)))
        clear HN4 HV4 HA4 HB4 d0 c0
        have HV6 := HV5.out
        obtain ⟨ao2, L2, cap2, rfl, hL2, hc2, hm2, ht2⟩ := HV6
        have HT2 := hid ht2
        have HL2 := hid hL2
        clear ht2 hL2 HV5
        go_wp2_with fail
        go_loopw [9] (fun i wr2 => ∃ j : Nat, j ≤ L2 ∧ i = .int .i64 j ∧ Below w5.heap.size w5 wr2) (fun i _ => L2 - (intOf i).toNat)
        case atStart => exact ⟨0, Nat.zero_le _, rfl, Ev.br _⟩
        case round =>
          obtain ⟨j, hj, rfl, hg⟩ := hrel
          have HG := hid hg
          clear hg
          by_cases hjt : j < L2
          · obtain ⟨y, hy⟩ := Ev.get_lt HL2.out hjt
            have hyf : y.key.f = S.fr := (HP4.out.2.2.2 y (List.mem_of_getElem? hy)).1
            obtain ⟨b2, o2, rfl, hb2, e0, _⟩ := (HT2.out.below HG.out).ev hy
            rw [hyf] at e0
            have f0 : wr.cell? ⟨w.heap.size, 0, none⟩ = some (.int .i64 S.fr) := st_cell (HA5.out.below HG.out) 0
            have hlt2 := (HA5.out.below HG.out).lt
            have hj1 : (j : Int) < (L2 : Int) := by omega
            have hj0 : (0 : Int) ≤ (j : Int) := by omega
            have hK := hid (fun W (g : Below wr.heap.size wr W) => And.intro ((g.cell (p := ⟨b2, o2 + j * 9, none⟩) hb2).trans e0) ((g.cell (p := ⟨w.heap.size, 0, none⟩) hlt2).trans f0))
            clear hy hyf e0 f0 hlt2
            go_upto_region 14 with fail
            refine wp_region_noPanic ?_
            refine wp_region_held_drew (S := (fun W => Below wr.heap.size wr W)) (by kernel_rfl) (by first | exact Ev.bd1 (Ev.br _) | exact Ev.bdn (Ev.br _) _ | exact Ev.br _) (fun hHeld => ?_)
            (refine takeW (i := 0) (d := 76) (v := ?_) rfl rfl (by kernel_rfl) (by kernel_rfl) (by kernel_rfl) (fun _ _ _ h => h) (by rfl) ?_ (by assumption) ?_)
            rotate_left
            · (intro W hSW; go_simp; (try with_reducible rfl))
            simp only [Act.put, List.setIfInBounds_toArray, List.set_cons_zero, List.set_cons_succ]
            (refine takeW (i := 1) (d := 77) (v := ?_) rfl rfl (by kernel_rfl) (by kernel_rfl) (by kernel_rfl) (fun _ _ _ h => h) (by rfl) ?_ (by assumption) ?_)
            rotate_left
            · (intro W hSW; go_simp; (try with_reducible rfl))
            simp only [Act.put, List.setIfInBounds_toArray, List.set_cons_zero, List.set_cons_succ]
            (refine takeW (i := 2) (d := 78) (v := ?_) rfl rfl (by kernel_rfl) (by kernel_rfl) (by kernel_rfl) (fun _ _ _ h => h) (by rfl) ?_ (by assumption) ?_)
            rotate_left
            · (intro W hSW; go_simp; (try with_reducible rfl))
            simp only [Act.put, List.setIfInBounds_toArray, List.set_cons_zero, List.set_cons_succ]
            (refine takeW (i := 3) (d := 79) (v := ?_) rfl rfl (by kernel_rfl) (by kernel_rfl) (by kernel_rfl) (fun _ _ _ h => h) (by rfl) ?_ (by assumption) ?_)
            rotate_left
            · (intro W hSW; go_simp; (try with_reducible rfl))
            simp only [Act.put, List.setIfInBounds_toArray, List.set_cons_zero, List.set_cons_succ]
            (refine takeW (i := 4) (d := 80) (v := ?_) rfl rfl (by kernel_rfl) (by kernel_rfl) (by kernel_rfl) (fun _ _ _ h => h) (by rfl) ?_ (by assumption) ?_)
            rotate_left
            · (intro W hSW; go_simp; (try with_reducible rfl))
            simp only [Act.put, List.setIfInBounds_toArray, List.set_cons_zero, List.set_cons_succ]
            (refine takeW (i := 5) (d := 81) (v := ?_) rfl rfl (by kernel_rfl) (by kernel_rfl) (by kernel_rfl) (fun _ _ _ h => h) (by rfl) ?_ (by assumption) ?_)
            rotate_left
            · (intro W hSW; have hSW2 := hK.out W hSW; go_simp; (try with_reducible rfl))
            simp only [Act.put, List.setIfInBounds_toArray, List.set_cons_zero, List.set_cons_succ]
            (refine takeW (i := 6) (d := 82) (v := ?_) rfl rfl (by kernel_rfl) (by kernel_rfl) (by kernel_rfl) (fun _ _ _ h => h) (by rfl) ?_ (by assumption) ?_)
            rotate_left
            · (intro W hSW; go_simp; (try with_reducible rfl))
            simp only [Act.put, List.setIfInBounds_toArray, List.set_cons_zero, List.set_cons_succ]
            (refine takeW (i := 7) (d := 83) (v := ?_) rfl rfl (by kernel_rfl) (by kernel_rfl) (by kernel_rfl) (fun _ _ _ h => h) (by rfl) ?_ (by assumption) ?_)
            rotate_left
            · (intro W hSW; have hSW2 := hK.out W hSW; go_simp; (try with_reducible rfl))
            simp only [Act.put, List.setIfInBounds_toArray, List.set_cons_zero, List.set_cons_succ]
            (refine takeW (i := 8) (d := 84) (v := ?_) rfl rfl (by kernel_rfl) (by kernel_rfl) (by kernel_rfl) (fun _ _ _ h => h) (by rfl) ?_ (by assumption) ?_)
            rotate_left
            · (intro W hSW; go_simp; (try with_reducible rfl))
            simp only [Act.put, List.setIfInBounds_toArray, List.set_cons_zero, List.set_cons_succ]
            refine wpAnyH_done (by kernel_rfl) ?_ _
            refine NoPanic.normal ?_
            go_wp2_with fail
            go_roundw
            case rel => first | exact ⟨j + 1, by omega, by go_num, Ev.bt HG.out (by first | with_reducible assumption | exact Ev.bdn (Ev.br _) _ | exact Ev.bd1 (Ev.br _) | exact Ev.br _)⟩ | ((repeat apply Exists.intro); exact ⟨⟨j + 1, by omega, by go_num, Ev.bt HG.out (by first | with_reducible assumption | exact Ev.bdn (Ev.br _) _ | exact Ev.bd1 (Ev.br _) | exact Ev.br _)⟩, rfl⟩)
            case measure => simp [intOf]; omega
          · have hd0 : decide ((j : Int) < (L2 : Int)) = false := by simp; omega
            have HN6 := hid (HN5.out.below HG.out)
            have HA6 := hid (HA5.out.below HG.out)
            have HB6 := hid (Ev.bt HB5.out HG.out)
            clear HN5 HA5 HB5
            go_wp2_with (first
              | (refine wpList_load_at rfl 33 _ rfl B 0 rfl 33 _ (stC S') (0, 0) _ HN6.out Tryd.underlying33 rfl (by kernel_rfl) (stC_self S') ?_)
              | (refine wpList_store_at rfl 33 _ _ rfl w.heap.size 0 (stC S') rfl rfl 33 _ HA6.out (by kernel_rfl) (by show 60 ≤ 60; decide) rfl ?_))
            go_roundw
            case rel => first | exact ⟨k + 1, S', by omega, by go_num, at_row HA6.out _, below_row HB6.out (Nat.le_refl _) _, HN.out.1, by have := HN.out.2.1; have := HF3.out.1; omega, by have := HN.out.2.2; have := HF3.out.2; omega⟩ | ((repeat apply Exists.intro); exact ⟨⟨k + 1, S', by omega, by go_num, at_row HA6.out _, below_row HB6.out (Nat.le_refl _) _, HN.out.1, by have := HN.out.2.1; have := HF3.out.1; omega, by have := HN.out.2.2; have := HF3.out.2; omega⟩, rfl⟩)
            case measure => simp [intOf]; omega
    · have hd0 : decide ((k : Int) < (L : Int)) = false := by simp; omega
      go_wp2_with fail
      go_ret
      exact ⟨rfl, HB3.out⟩

end Go.Proofs.YtoogcbniphoaoaaDoor.Gm
