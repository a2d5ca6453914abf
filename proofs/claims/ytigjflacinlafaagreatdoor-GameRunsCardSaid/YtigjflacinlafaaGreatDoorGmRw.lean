/- The walk of GameRuns (layer 12, game). -/
import Derived.Test.YtigjflacinlafaaGreatDoorJ13
import Derived.Test.YtigjflacinlafaaGreatDoorGmRun
import Derived.Test.YtigjflacinlafaaGreatDoorGmRr
import Derived.Deep.DeepCutAuto
import Derived.Deep.RegionWith
namespace Go.Proofs.YtigjflacinlafaaGreatDoor.Gm
open Go.RowKit Go.Proofs.YtigjflacinlafaaGreatDoor.Fx Go.Proofs.YtigjflacinlafaaGreatDoor.Tg Go.Proofs.YtigjflacinlafaaGreatDoor.Dc
open Go.Proofs.YtigjflacinlafaaGreatDoor.Ev (Ev Ky addR pageI At ecs Pg Evs flat)
open Go.Proofs.YtigjflacinlafaaGreatDoor.Sh (In32 vec box insideB touchB slI mvP mvV wallI)
set_option linter.unusedVariables false

theorem step_len (s : St) (a b : Int) : (stepP s a b).2.length ≤ 64 := by
 have h1 := play_page (q := (s, [])) (Ev.page_nil _) 0 a
 have k1 := (play_keeps 0 a (s, [])).1
 have h2 := play_page (q := playP 0 a (s, [])) (by rw [k1]; exact h1) 1 b
 have k2 := (play_keeps 1 b (playP 0 a (s, []))).1
 have h3 := clash_page (q := playP 1 b (playP 0 a (s, []))) (by rw [k2]; exact h2)
 have k3 := (clash_keeps (playP 1 b (playP 0 a (s, [])))).1
 have h4 := flies_page (q := clashP (playP 1 b (playP 0 a (s, [])))) (by rw [k3]; exact h3) 6 (Nat.le_refl _)
 have k4 := (flies_keeps (clashP (playP 1 b (playP 0 a (s, [])))) 6 (Nat.le_refl _)).1
 have h5 := count_page (q := fliesP 6 (clashP (playP 1 b (playP 0 a (s, []))))) (by rw [k4]; exact h4)
 exact h5.2.2.1

set_option maxRecDepth 100000 in
set_option maxHeartbeats 8000000 in
theorem runs_w (seed : Int) (v : Value) (l : List (Int × Int)) (w : World) (htab : Tab w) (hs : 0 ≤ seed ∧ seed < 4294967296) (h : Ins w v l) (hb : ∀ x, x ∈ l → (0 ≤ x.1 ∧ x.1 ≤ 255) ∧ 0 ≤ x.2 ∧ x.2 ≤ 255) :
 Calls Tryz.prog 3 #[.int .u32 seed, v] w fun e w' => e = .returned (.bool true) ∧ Below w.heap.size w w' := by
 have HI := hid h
 have HTb := hid htab
 have HBd : Hid (∀ x, x ∈ l → 0 ≤ x.1 ∧ 0 ≤ x.2) := hid (fun x hx => ⟨(hb x hx).1.1, (hb x hx).2.1⟩)
 have HBu := hid hb
 obtain ⟨ao, L, cap, rfl, hL, hc, hm, ht⟩ := h
 have HL := hid hL
 have HT := hid ht
 have HS := hid hs
 clear hL ht htab hb hs
 have HAw := hid (awake_c w HTb.out)
 go_enter Tryz.func3, Tryz.ntmps3
 go_upto_region 3 with (go_at_call 5; ((with_reducible refine HAw.out.mono ?_); rintro e w1 ⟨rfl, g1⟩; have HB1 := hid g1; clear g1))
 clear HAw
 by_cases q1 : (400 : Int) < (L : Int)
 · go_wp2_with fail
   go_ret
   exact ⟨rfl, HB1.out⟩
 have hL4 : L ≤ 400 := by omega
 have HRun : Hid (∀ W, Below w.heap.size w W → Calls Tryz.prog 6 #[.agg (stC (beginS seed)).toArray, .slice ao L cap] W fun e w' => ∃ v', e = .returned (.tuple #[.agg (stC (runR (beginS seed) l).1).toArray, v', .int .i64 (runR (beginS seed) l).2.2]) ∧ w'.ownsRow W.heap.size 53 9 v' (runR (beginS seed) l).2.1.length (flat ecs (runR (beginS seed) l).2.1) ∧ Below W.heap.size W w' ∧ (runR (beginS seed) l).2.1.length ≤ 64 * l.length) := hid (fun W g => run_all (beginS seed) _ l W (HTb.out.below HTb.out.lt g) (begin_ty HS.out) (HI.out.below g) HBd.out (by have := HL.out; omega))
 obtain ⟨R0, HR⟩ : ∃ R0, Hid (runR (beginS seed) l = R0) := ⟨_, hid rfl⟩
 rw [HR.out] at HRun
 obtain ⟨S0, l0, e0⟩ := R0
 have HR0 := HR
 clear HR
 dsimp only at HRun
 go_upto_region 6 with (first
  | (go_at_call 7; ((with_reducible refine (start_c _ _).mono ?_); rintro e w2 ⟨rfl, g2⟩; have HB2 := hid (Ev.bt HB1.out g2)))
  | (go_at_call 6; ((with_reducible refine (HRun.out _ HB2.out).mono ?_); rintro e w3 ⟨va, rfl, ho, g3, hle⟩; have HV3 := hid (Ev.owns_sl (enc := ecs) (k := 9) (fun _ => rfl) ho); have HB3 := hid (Ev.bt HB2.out g3); clear ho hle g3))
  | (refine wpList_store_at rfl 35 _ _ rfl w3.heap.size 0 (stC S0) rfl rfl 35 _ (At.new w3 _ _) (by kernel_rfl) (by show 60 ≤ 60; decide) rfl ?_))
 generalize hW : World.setRow _ _ _ = w4
 have HG4 : Hid (Below w3.heap.size w3 w4) := hid (by rw [← hW]; exact below_row (Ev.bal (Ev.br w3) _) (Nat.le_refl _) _)
 have HN4 : Hid (At w4 w3.heap.size (stC S0).toArray 35) := hid (by rw [← hW]; exact at_row (At.new w3 _ _) _)
 have HV4 := hid (HV3.out.below HG4.out)
 have HB4 := hid (Ev.bt HB3.out HG4.out)
 clear hW HG4 HV3 HB3 HB2 HRun g2
 generalize w3.heap.size = N5 at HN4 ⊢
 go_upto_region 7 with (first
  | (go_at_call 8; ((with_reducible refine (rstart_c _ _).mono ?_); rintro e w5 ⟨rfl, g5⟩; have HG5 := hid g5; clear g5))
  | (refine wpList_store_at rfl 35 _ _ rfl w5.heap.size 0 (stC (beginS seed)) rfl rfl 35 _ (At.new w5 _ _) (by kernel_rfl) (by show 60 ≤ 60; decide) rfl ?_))
 generalize hW : World.setRow _ _ _ = w6
 have HG6 : Hid (Below w4.heap.size w4 w6) := hid (by rw [← hW]; exact Ev.bt HG5.out (below_row (Ev.bal (Ev.br w5) _) (Nat.le_refl _) _))
 have HN6 : Hid (At w6 w5.heap.size (stC (beginS seed)).toArray 35) := hid (by rw [← hW]; exact at_row (At.new w5 _ _) _)
 have HGe8 := hid HG5.out.size
 clear hW HG5
 generalize w5.heap.size = N8 at HN6 HGe8 ⊢
 go_upto_region 8 with fail
 have HO7 := hid (World.ownsRow_made (base := w4.heap.size) (e := 53) (size := 9) w6 #[] 0 HG6.out.size (by decide) rfl)
 have HN7 := hid (HN6.out.more (.cells #[] 53))
 have HG7 := hid (Ev.bal HG6.out (.cells #[] 53))
 generalize hA : World.alloc w6 _ = w7
 rw [hA] at HO7 HN7 HG7
 clear hA HG6 HN6
 generalize Value.slice (some ⟨w6.heap.size, 0, none⟩) 0 0 = v7 at HO7 ⊢
 obtain ⟨ao6, L6, cap6, rfl, hL6, hc6, hm6, ht6⟩ := HV4.out
 have HL6 := hid hL6
 have HV4b := HV4
 clear hL6 ht6 HV4
 go_wp2_with fail
 go_loopw [9, 10] (fun s9 i wr => ∃ (k : Nat) (S : St) (ev : List Ev) (v9 : Value), k ≤ L ∧ s9 = v9 ∧ i = .int .i64 k ∧ runQ (beginS seed) (l.take k) = (S, ev) ∧ okTo (beginS seed) l k ∧ Ms 2 S ∧ S.fr = k ∧ S.rd ≤ k ∧ ev.length ≤ 64 * k ∧ At wr N8 (stC S).toArray 35 ∧ wr.ownsRow w4.heap.size 53 9 v9 ev.length (flat ecs ev) ∧ Below w4.heap.size w4 wr) (fun _ i _ => L - (intOf i).toNat)
 case atStart => exact ⟨0, beginS seed, [], v7, Nat.zero_le _, rfl, rfl, rfl, fun j hj => by omega, right_ms (begin_right seed) (begin_ty HS.out), rfl, Int.le_refl _, Nat.le_refl _, HN7.out, HO7.out, HG7.out⟩
 case round =>
  obtain ⟨k, S, ev, v9, hk, ev9, rfl, hq, hok, hMs, hfr, hrd, hlen, hN, hO, hG⟩ := hrel
  obtain rfl := ev9.symm
  have HN3 := hid hN
  have HO3 := hid hO
  have HG3 := hid hG
  have HMs := hid hMs
  have HF3 := hid (And.intro hfr hrd)
  have HBr := hid (Ev.bt HB4.out hG)
  have HN5r := hid (HN4.out.below hG)
  have HVr := hid (HV4b.out.below hG)
  clear hN hO hG hMs hfr hrd HN7 HO7 HG7
  by_cases hlt : k < L
  · obtain ⟨x, hx⟩ := Ev.get_lt HL.out hlt
    have HXb := hid (HBu.out x (List.mem_of_getElem? hx))
    obtain ⟨b, o, rfl, hbl, c0, c1⟩ := row_in (HT.out.below HBr.out) hx
    have hk1 : (k : Int) < (L : Int) := by omega
    have hk0 : (0 : Int) ≤ (k : Int) := by omega
    obtain ⟨⟨x00, x01⟩, x10, x11⟩ := HXb.out
    by_cases q3 : 63 < x.1
    · have hbad : ¬ (rightS S = true ∧ x.1 ≤ 63 ∧ x.2 ≤ 63) := by omega
      have he : errI S x = 1 := by
       unfold errI stepR
       rw [if_neg hbad]
      have hR0 : runR (beginS seed) l = (zeroS, [], 1) := by
       have := runR_bad hx hok (by rw [hq, he]; decide)
       rw [hq, he] at this
       exact this
      have e := HR0.out
      rw [hR0] at e
      obtain ⟨rfl, rfl, rfl⟩ : S0 = zeroS ∧ l0 = [] ∧ e0 = 1 := by cases e; exact ⟨rfl, rfl, rfl⟩
      obtain rfl : L6 = 0 := HL6.out.symm
      have hqz : ∀ W : World, (binOp .eql 35 (.agg (stC zeroS).toArray) (.agg #[.int .i64 0, .int .u32 0, .int .i64 0, .int .i64 0, .int .i32 0, .int .i32 0, .int .i32 0, .int .i32 0, .int .i64 0, .int .i64 0, .int .i64 0, .int .i64 0, .int .i64 0, .int .i64 0, .int .i32 0, .int .i32 0, .int .i32 0, .int .i32 0, .int .i64 0, .int .i64 0, .int .i64 0, .int .i64 0, .int .i64 0, .int .i64 0, .int .i32 0, .int .i32 0, .int .i32 0, .int .i32 0, .int .i64 0, .int .i64 0, .int .i32 0, .int .i32 0, .int .i32 0, .int .i32 0, .int .i64 0, .int .i64 0, .int .i32 0, .int .i32 0, .int .i32 0, .int .i32 0, .int .i64 0, .int .i64 0, .int .i32 0, .int .i32 0, .int .i32 0, .int .i32 0, .int .i64 0, .int .i64 0, .int .i32 0, .int .i32 0, .int .i32 0, .int .i32 0, .int .i64 0, .int .i64 0, .int .i32 0, .int .i32 0, .int .i32 0, .int .i32 0, .int .i64 0, .int .i64 0])).run Tryz.prog W = .ok (.bool true) W := fun W => by
       have := eqS zeroS zeroS W
       rw [decide_eq_true rfl] at this
       exact this
      clear e hR0 he hbad hq hok hx HR0
      go_wp2_with (refine wpList_load_atg (by rfl) 35 _ rfl N5 0 rfl 35 _ (stC zeroS) (0, 0) _ HN5r.out Tryz.underlying35 rfl (by kernel_rfl) (stC_self zeroS) ?_)
      go_ret
      exact ⟨rfl, HBr.out⟩
    by_cases q4 : 63 < x.2
    · have hbad : ¬ (rightS S = true ∧ x.1 ≤ 63 ∧ x.2 ≤ 63) := by omega
      have he : errI S x = 1 := by
       unfold errI stepR
       rw [if_neg hbad]
      have hR0 : runR (beginS seed) l = (zeroS, [], 1) := by
       have := runR_bad hx hok (by rw [hq, he]; decide)
       rw [hq, he] at this
       exact this
      have e := HR0.out
      rw [hR0] at e
      obtain ⟨rfl, rfl, rfl⟩ : S0 = zeroS ∧ l0 = [] ∧ e0 = 1 := by cases e; exact ⟨rfl, rfl, rfl⟩
      obtain rfl : L6 = 0 := HL6.out.symm
      have hqz : ∀ W : World, (binOp .eql 35 (.agg (stC zeroS).toArray) (.agg #[.int .i64 0, .int .u32 0, .int .i64 0, .int .i64 0, .int .i32 0, .int .i32 0, .int .i32 0, .int .i32 0, .int .i64 0, .int .i64 0, .int .i64 0, .int .i64 0, .int .i64 0, .int .i64 0, .int .i32 0, .int .i32 0, .int .i32 0, .int .i32 0, .int .i64 0, .int .i64 0, .int .i64 0, .int .i64 0, .int .i64 0, .int .i64 0, .int .i32 0, .int .i32 0, .int .i32 0, .int .i32 0, .int .i64 0, .int .i64 0, .int .i32 0, .int .i32 0, .int .i32 0, .int .i32 0, .int .i64 0, .int .i64 0, .int .i32 0, .int .i32 0, .int .i32 0, .int .i32 0, .int .i64 0, .int .i64 0, .int .i32 0, .int .i32 0, .int .i32 0, .int .i32 0, .int .i64 0, .int .i64 0, .int .i32 0, .int .i32 0, .int .i32 0, .int .i32 0, .int .i64 0, .int .i64 0, .int .i32 0, .int .i32 0, .int .i32 0, .int .i32 0, .int .i64 0, .int .i64 0])).run Tryz.prog W = .ok (.bool true) W := fun W => by
       have := eqS zeroS zeroS W
       rw [decide_eq_true rfl] at this
       exact this
      clear e hR0 he hbad hq hok hx HR0
      go_wp2_with (refine wpList_load_atg (by rfl) 35 _ rfl N5 0 rfl 35 _ (stC zeroS) (0, 0) _ HN5r.out Tryz.underlying35 rfl (by kernel_rfl) (stC_self zeroS) ?_)
      go_ret
      exact ⟨rfl, HBr.out⟩
    have hMs2 := HMs.out
    have HOk : Hid (okTo (beginS seed) l (k + 1)) := hid (okTo_step hok hx (by
     rw [hq]
     show errI S x = 0
     unfold errI stepR
     rw [if_pos ⟨ms_right hMs2, by omega, by omega⟩, if_neg (by have := HF3.out.1; omega)]))
    have HQ1 : Hid (runQ (beginS seed) (l.take (k + 1)) = ((stepP S x.1 x.2).1, ev ++ (stepP S x.1 x.2).2)) := hid (by rw [run_take hx, hq]; rfl)
    have HN : Hid (Ms 2 (stepP S x.1 x.2).1 ∧ (stepP S x.1 x.2).1.fr = S.fr + 1 ∧ (stepP S x.1 x.2).1.rd ≤ S.rd + 1 ∧ (stepP S x.1 x.2).2.length ≤ 64) := hid (by
     have h1 := HF3.out
     exact ⟨step_ok hMs2 (by omega) (by omega) _ _, step_fr _ _ _, (step_rd _ _ _).1, step_len _ _ _⟩)
    have HSr : Hid (∀ W, Calls Tryz.prog 9 #[.agg (stC S).toArray, .agg #[.int .u8 x.1, .int .u8 x.2]] W fun e w' => ∃ v', e = .returned (.tuple #[.agg (stC (stepP S x.1 x.2).1).toArray, v']) ∧ Evs w' v' (stepP S x.1 x.2).2 ∧ Below W.heap.size W w' ∧ ∀ k, v'.ownBlock = some k → W.heap.size ≤ k) := hid (fun W => rstep_c S x.1 x.2 W hMs2 ⟨x00, by omega⟩ ⟨x10, by omega⟩ (by have := HF3.out.1; omega))
    generalize stepP S x.1 x.2 = qn at HSr HN HQ1
    obtain ⟨Sn, kn⟩ := qn
    dsimp only at HSr HN HQ1
    clear hMs2 hok hq hx HMs
    go_upto_region 13 with fail
    go_cut [11, 12] (fun s11 s12 wx => ∃ B vk, s11 = .pointer (some ⟨B, 0, none⟩) ∧ s12 = vk ∧ At wx B (stC Sn).toArray 35 ∧ wr.heap.size ≤ B ∧ Evs wx vk kn ∧ (∀ k, vk.ownBlock = some k → wr.heap.size ≤ k) ∧ Below wr.heap.size wr wx)
    case first =>
     have hK := hid (fun W (g : Below wr.heap.size wr W) => And.intro ((g.cell (p := ⟨b, o + k * 2, none⟩) hbl).trans c0) ((g.cell (p := ⟨b, o + k * 2 + 1, none⟩) hbl).trans c1))
     have HC0 := hid (Ev.bd1 (Ev.br wr))
     refine wp_region_noPanic ?_
     refine wp_region_held_drew (S := (fun W => Below wr.heap.size wr W)) (by kernel_rfl) HC0.out (fun hHeld => ?_)
     generalize World.drew wr = u0 at HC0 hHeld ⊢
     (refine tk 0 62 (.agg (stC S).toArray) rfl rfl (by kernel_rfl) (by rfl) ?_ (by assumption) ?_)
     · (intro W hSW; exact exec_load_at W 35 _ rfl N8 0 rfl 35 _ (stC S) (0, 0) _ (HN3.out.below hSW) Tryz.underlying35 rfl (by kernel_rfl) (stC_self S))
     simp only [Act.put, pu1, pu2, pu3]
     (refine tk 1 63 ?_ rfl rfl (by kernel_rfl) (by rfl) ?_ (by assumption) ?_)
     rotate_left
     · (intro W hSW; go_simp; (try with_reducible rfl))
     simp only [Act.put, pu1, pu2, pu3]
     (refine tk 2 64 ?_ rfl rfl (by kernel_rfl) (by rfl) ?_ (by assumption) ?_)
     rotate_left
     · (intro W hSW; go_simp; (try with_reducible rfl))
     simp only [Act.put, pu1, pu2, pu3]
     (refine tk 3 65 ?_ rfl rfl (by kernel_rfl) (by rfl) ?_ (by assumption) ?_)
     rotate_left
     · (intro W hSW; go_simp; (try with_reducible rfl))
     simp only [Act.put, pu1, pu2, pu3]
     (refine tk 4 66 ?_ rfl rfl (by kernel_rfl) (by rfl) ?_ (by assumption) ?_)
     rotate_left
     · (intro W hSW; have hSW2 := hK.out W hSW; go_simp; (try with_reducible rfl))
     simp only [Act.put, pu1, pu2, pu3]
     refine wpAnyH_ready (rs := [5, 9]) (by kernel_rfl) (by simp) ?_
     refine AllReadyH.cons (i := 5) rfl (fun K hKK => ?_) ?_
     · go_simp
       (refine (HSr.out _).mono ?_)
       rintro e u1 ⟨vq, rfl, hv, g1, ho⟩
       have HV1 := hid hv
       have HOq := hid (fun k hk => Nat.le_trans HC0.out.size (ho k hk))
       clear hv ho
       have HC1 := hid (Ev.bt HC0.out g1)
       dsimp only
       refine hKK.out _ _ HC1.out (fun hHeld => ?_)
       clear hKK K
       (try simp only [Act.put, pu1, pu2, pu3])
       (refine tk 6 61 ?_ rfl rfl (by kernel_rfl) (by rfl) ?_ (by assumption) ?_)
       rotate_left
       · (intro W hSW; go_simp; (try with_reducible rfl))
       simp only [Act.put, pu1, pu2, pu3]
       (refine tk 7 68 ?_ rfl rfl (by kernel_rfl) (by rfl) ?_ (by assumption) ?_)
       rotate_left
       · (intro W hSW; go_simp; (try with_reducible rfl))
       simp only [Act.put, pu1, pu2, pu3]
       (refine tk 8 69 ?_ rfl rfl (by kernel_rfl) (by rfl) ?_ (by assumption) ?_)
       rotate_left
       · (intro W hSW; go_simp; (try with_reducible rfl))
       simp only [Act.put, pu1, pu2, pu3]
       refine wpAnyH_ready (rs := [9]) (by kernel_rfl) (by simp) ?_
       refine AllReadyH.cons (i := 9) rfl (fun K hKK => ?_) AllReadyH.nil
       go_simp
       have HD2' := hid (At.new u1 (stC zeroS).toArray 35)
       have HC2' := hid (Ev.bal HC1.out (.cells (stC zeroS).toArray 35))
       have HV2' := hid (HV1.out.below (Ev.bal (Ev.br u1) (.cells (stC zeroS).toArray 35)))
       have HEo := hid (evs_off HV1.out)
       have HNb := hid (show ∀ k, vq.ownBlock = some k → k ≠ u1.heap.size ∨ kn = [] from fun k hk => by rcases HEo.out with e | e; exact .inr e; exact .inl (e k hk))
       have HGe := hid (show wr.heap.size ≤ u1.heap.size from HC1.out.size)
       generalize hA : World.alloc u1 _ = u2 at hKK ⊢
       have HD2 : Hid (At u2 u1.heap.size (stC zeroS).toArray 35) := hid (by rw [← hA]; exact HD2'.out)
       have HC2 : Hid (Below wr.heap.size wr u2) := hid (by rw [← hA]; exact HC2'.out)
       have HV2 : Hid (Evs u2 vq kn) := hid (by rw [← hA]; exact HV2'.out)
       clear hA HD2' HC2' HV2'
       generalize u1.heap.size = Bq at HD2 HGe HNb HEo ⊢
       refine hKK.out _ _ HC2.out (fun hHeld => ?_)
       clear hKK K
       (try simp only [Act.put, pu1, pu2, pu3])
       refine wpAnyH_ready (rs := [10]) (by kernel_rfl) (by simp) ?_
       refine AllReadyH.cons (i := 10) rfl (fun K hKK => ?_) AllReadyH.nil
       have HFar : Hid (kn = [] ∨ ∀ k, vq.ownBlock = some k → k ≠ Bq) := hid (HEo.out)
       rw [if_pos (by rfl)]
       refine wp_store_at 35 _ _ rfl Bq 0 (stC Sn) rfl rfl 35 _ HD2.out (by kernel_rfl) (by show 60 ≤ 60; decide) rfl ?_
       change K (Act.put _ none undef) (u2.setRow Bq (stC Sn).toArray)
       have HD3 := hid (at_row HD2.out (stC Sn).toArray)
       have HC3 := hid (below_row HC2.out HGe.out (stC Sn).toArray)
       have HV3 := hid (evs_setr HV2.out HFar.out (stC Sn).toArray)
       refine hKK.out _ _ HC3.out (fun hHeld => ?_)
       clear hKK K
       (try simp only [Act.put])
       generalize World.setRow u2 _ _ = u3 at HD3 HC3 HV3 hHeld ⊢
       refine wpAnyH_ready (rs := [11]) (by kernel_rfl) (by simp) ?_
       refine AllReadyH.cons (i := 11) rfl (fun K hKK => ?_) AllReadyH.nil
       go_simp
       refine hKK.out _ _ hHeld (fun hHeld => ?_)
       clear hKK K
       (try simp only [Act.put, pu1, pu2, pu3])
       refine wpAnyH_done (by kernel_rfl) ?_ _
       refine NoPanic.normal ?_
       go_wp2_with fail
       go_meet
       case rel => exact ⟨Bq, vq, rfl, rfl, HD3.out, HGe.out, HV3.out, HOq.out, HC3.out⟩
     refine AllReadyH.cons (i := 9) rfl (fun K hKK => ?_) AllReadyH.nil
     go_simp
     have HD5' := hid (At.new u0 (stC zeroS).toArray 35)
     have HC5' := hid (Ev.bal HC0.out (.cells (stC zeroS).toArray 35))
     have HGe := hid (show wr.heap.size ≤ u0.heap.size from HC0.out.size)
     generalize hA : World.alloc u0 _ = u5 at hKK ⊢
     have HD5 : Hid (At u5 u0.heap.size (stC zeroS).toArray 35) := hid (by rw [← hA]; exact HD5'.out)
     have HC5 : Hid (Below wr.heap.size wr u5) := hid (by rw [← hA]; exact HC5'.out)
     clear hA HD5' HC5'
     generalize u0.heap.size = Bq at HD5 HGe ⊢
     refine hKK.out _ _ HC5.out (fun hHeld => ?_)
     clear hKK K
     (try simp only [Act.put, pu1, pu2, pu3])
     refine wpAnyH_ready (rs := [5]) (by kernel_rfl) (by simp) ?_
     refine AllReadyH.cons (i := 5) rfl (fun K hKK => ?_) AllReadyH.nil
     go_simp
     (refine (HSr.out _).mono ?_)
     rintro e u6 ⟨vq, rfl, hv, g6, ho⟩
     have HV6 := hid hv
     have HOq := hid (fun k hk => Nat.le_trans HC5.out.size (ho k hk))
     have HOb := hid (show ∀ k, vq.ownBlock = some k → k ≠ Bq from fun k hk => by have h1 := ho k hk; have h2 := HD5.out.lt; omega)
     clear hv ho
     have HC6 := hid (Ev.bt HC5.out g6)
     have HD6 := hid (HD5.out.below g6)
     dsimp only
     refine hKK.out _ _ HC6.out (fun hHeld => ?_)
     clear hKK K
     (try simp only [Act.put, pu1, pu2, pu3])
     (refine tk 6 61 ?_ rfl rfl (by kernel_rfl) (by rfl) ?_ (by assumption) ?_)
     rotate_left
     · (intro W hSW; go_simp; (try with_reducible rfl))
     simp only [Act.put, pu1, pu2, pu3]
     (refine tk 7 68 ?_ rfl rfl (by kernel_rfl) (by rfl) ?_ (by assumption) ?_)
     rotate_left
     · (intro W hSW; go_simp; (try with_reducible rfl))
     simp only [Act.put, pu1, pu2, pu3]
     (refine tk 8 69 ?_ rfl rfl (by kernel_rfl) (by rfl) ?_ (by assumption) ?_)
     rotate_left
     · (intro W hSW; go_simp; (try with_reducible rfl))
     simp only [Act.put, pu1, pu2, pu3]
     refine wpAnyH_ready (rs := [10]) (by kernel_rfl) (by simp) ?_
     refine AllReadyH.cons (i := 10) rfl (fun K hKK => ?_) AllReadyH.nil
     have HFar : Hid (kn = [] ∨ ∀ k, vq.ownBlock = some k → k ≠ Bq) := hid (.inr fun k hk => HOb.out k hk)
     rw [if_pos (by rfl)]
     refine wp_store_at 35 _ _ rfl Bq 0 (stC Sn) rfl rfl 35 _ HD6.out (by kernel_rfl) (by show 60 ≤ 60; decide) rfl ?_
     change K (Act.put _ none undef) (u6.setRow Bq (stC Sn).toArray)
     have HD7 := hid (at_row HD6.out (stC Sn).toArray)
     have HC7 := hid (below_row HC6.out HGe.out (stC Sn).toArray)
     have HV7 := hid (evs_setr HV6.out HFar.out (stC Sn).toArray)
     refine hKK.out _ _ HC7.out (fun hHeld => ?_)
     clear hKK K
     (try simp only [Act.put])
     generalize World.setRow u6 _ _ = u7 at HD7 HC7 HV7 hHeld ⊢
     refine wpAnyH_ready (rs := [11]) (by kernel_rfl) (by simp) ?_
     refine AllReadyH.cons (i := 11) rfl (fun K hKK => ?_) AllReadyH.nil
     go_simp
     refine hKK.out _ _ hHeld (fun hHeld => ?_)
     clear hKK K
     (try simp only [Act.put, pu1, pu2, pu3])
     refine wpAnyH_done (by kernel_rfl) ?_ _
     refine NoPanic.normal ?_
     go_wp2_with fail
     go_meet
     case rel => exact ⟨Bq, vq, rfl, rfl, HD7.out, HGe.out, HV7.out, HOq.out, HC7.out⟩
    case rest =>
     obtain ⟨B, vk, rfl, evk, hN, hGe, hV, hO, hB⟩ := hcut
     obtain rfl := evk.symm
     have HA4 := hid hN
     have HV5 := hid hV
     have HN4b := hid (HN3.out.below hB)
     have HO4 := hid (own_old HO3.out hB)
     have HG4 := hid (Ev.bt HG3.out hB)
     have HW8 : Hid (∀ k, vk.ownBlock = some k → k ≠ N8) := hid (fun k e => Nat.ne_of_gt (Nat.lt_of_lt_of_le HN3.out.lt (hO k e)))
     clear hN hGe hV hO hB c0 c1 HSr HN3 HO3 HG3 x00 x01 x10 x11
     go_upto_region 15 with (first
      | (refine wpList_load_atg (by rfl) 35 _ rfl B 0 rfl 35 _ (stC Sn) (0, 0) _ HA4.out Tryz.underlying35 rfl (by kernel_rfl) (stC_self Sn) ?_)
      | (refine wpList_store_at rfl 35 _ _ rfl N8 0 (stC Sn) rfl rfl 35 _ HN4b.out (by kernel_rfl) (by show 60 ≤ 60; decide) rfl ?_))
     generalize hW : World.setRow _ _ _ = w9
     have HN9 : Hid (At w9 N8 (stC Sn).toArray 35) := hid (by rw [← hW]; exact at_row HN4b.out _)
     have HV9 : Hid (Evs w9 vk kn) := hid (by rw [← hW]; exact evs_row HV5.out HW8.out _)
     have HO9 : Hid (w9.ownsRow w4.heap.size 53 9 v9 ev.length (flat ecs ev)) := hid (by rw [← hW]; exact own_row HO4.out (at_not_row HN4b.out HO4.out (by decide)) _)
     have HG9 : Hid (Below w4.heap.size w4 w9) := hid (by rw [← hW]; exact below_row HG4.out HGe8.out _)
     clear hW HA4 HV5 HN4b HO4 HG4
     have hle : ev.length ≤ 1000000 := by omega
     have hlk : kn.length ≤ 1000000 := Nat.le_trans HN.out.2.2.2 (by decide)
     have hwz := HG9.out.size
     have hrS : rightS Sn = true := ms_right HN.out.1
     go_wp2_with (first
      | (at_builtin; refine app_evs _ rfl (.tmp 71) (.tmp 72) rfl w4.heap.size v9 ev rfl HO9.out vk kn HV9.out rfl hle hlk hwz ?_; intro v' w10 ho hg; have HO10 := hid ho; have HN10 := hid (Ev.At.kept HN9.out hg (at_not_row HN9.out HO9.out (by decide))); have HG10 := hid (HG9.out.grown hg hwz (fun k e => (HO9.out.lt k e).1)); clear ho hg)
      | (refine wpList_load_atg (by rfl) 35 _ rfl N8 0 rfl 35 _ (stC Sn) (0, 0) _ HN10.out Tryz.underlying35 rfl (by kernel_rfl) (stC_self Sn) ?_)
      | (go_at_call 10; ((with_reducible refine (rright_c _ _).mono ?_); rintro e w11 ⟨rfl, g11⟩; rw [hrS]; have HO11 := hid (own_old HO10.out g11); have HN11 := hid (HN10.out.below g11); have HG11 := hid (Ev.bt HG10.out g11); clear g11)))
     go_roundw
     case rel => exact ⟨k + 1, Sn, ev ++ kn, v', by omega, rfl, by go_num, HQ1.out, HOk.out, HN.out.1, by have := HN.out.2.1; have := HF3.out.1; omega, by have := HN.out.2.2.1; have := HF3.out.2; omega, by rw [List.length_append]; have := HN.out.2.2.2; omega, HN11.out, HO11.out, HG11.out⟩
     case measure => simp [intOf]; omega
  · have hkL : k = L := by omega
    subst hkL
    have htk : l.take k = l := List.take_of_length_le (by have := HL.out; omega)
    have e : runR (beginS seed) l = (S, ev, 0) := by
     have := runR_take l.length (Nat.le_refl _) (by rw [HL.out]; exact hok)
     rw [List.take_length] at this
     rw [this]
     rw [htk] at hq
     rw [hq]
    rw [HR0.out] at e
    obtain ⟨rfl, rfl, rfl⟩ : S0 = S ∧ l0 = ev ∧ e0 = 0 := by cases e; exact ⟨rfl, rfl, rfl⟩
    have hrS : rightS S0 = true := ms_right HMs.out
    have HV9 := hid (Ev.owns_sl (enc := ecs) (k := 9) (fun _ => rfl) HO3.out)
    have hqe : ∀ W : World, (binOp .eql 35 (.agg (stC S0).toArray) (.agg (stC S0).toArray)).run Tryz.prog W = .ok (.bool true) W := fun W => by
     have := eqS S0 S0 W
     rw [decide_eq_true rfl] at this
     exact this
    clear e htk hq hok HR0
    go_wp2_with (first
     | (refine wpList_load_atg (by rfl) 35 _ rfl N5 0 rfl 35 _ (stC S0) (0, 0) _ HN5r.out Tryz.underlying35 rfl (by kernel_rfl) (stC_self S0) ?_)
     | (refine wpList_load_atg (by rfl) 35 _ rfl N8 0 rfl 35 _ (stC S0) (0, 0) _ HN3.out Tryz.underlying35 rfl (by kernel_rfl) (stC_self S0) ?_)
     | (go_at_call 11; ((refine (Ev.rsame_c _ v9 l0 l0 _ HVr.out HV9.out).mono ?_); rintro e w12 ⟨rfl, g12⟩; rw [decide_eq_true rfl]; have HB12 := hid (Ev.bt HBr.out g12.below); have HN12 := hid (HN5r.out.below g12.below); clear g12))
     | (refine wpList_load_atg (by rfl) 35 _ rfl N5 0 rfl 35 _ (stC S0) (0, 0) _ HN12.out Tryz.underlying35 rfl (by kernel_rfl) (stC_self S0) ?_)
     | (go_at_call 12; ((with_reducible refine (right_c _ _).mono ?_); rintro e w13 ⟨rfl, g13⟩; rw [hrS]; have HB13 := hid (Ev.bt HB12.out g13); clear g13)))
    go_ret
    exact ⟨rfl, HB13.out⟩

end Go.Proofs.YtigjflacinlafaaGreatDoor.Gm
