/- The document's Player that is down (layer 12, game). -/
import Derived.Test.YtigjflacinlafaaGreatDoorJ12
import Derived.Test.YtigjflacinlafaaGreatDoorGmStep
import Derived.IntWalk
import Derived.Deep.DeepCutAuto
import Derived.Deep.RegionWith
namespace Go.Proofs.YtigjflacinlafaaGreatDoor.Gm
open Go.RowKit Go.Proofs.YtigjflacinlafaaGreatDoor.Fx Go.Proofs.YtigjflacinlafaaGreatDoor.Tg Go.Proofs.YtigjflacinlafaaGreatDoor.Dc
open Go.Proofs.YtigjflacinlafaaGreatDoor.Ev (Ev Ky addR pageI At ecs Pg Evs)
open Go.Proofs.YtigjflacinlafaaGreatDoor.Sh (In32 vec box insideB touchB slI mvP mvV wallI)
set_option linter.unusedVariables false

theorem stP_row (s : St) {t : Nat} (ht : t < 2) (p : Pl) : (List.take (4 + t * 10) (stC s) ++ plC p ++ List.drop (4 + t * 10 + 10) (stC s)).toArray = (stC (setP s t p)).toArray := by
 have hh : t = 0 ∨ t = 1 := by omega
 rcases hh with rfl | rfl <;> rfl
theorem setP_di {s : St} {n : Int} (p : Pl) {t : Nat} (ht : t < 2) : setP { s with di := n } t p = { setP s t p with di := n } := by
 have hh : t = 0 ∨ t = 1 := by omega
 rcases hh with rfl | rfl <;> rfl
theorem stC_slf (s : St) : ∀ j v, (stC s)[j]? = some v → ((stC s).toArray)[0 + j]? = some v := by
 intro j v h
 rw [Nat.zero_add, List.getElem?_toArray]
 exact h
theorem st_at {w : World} {b : Nat} {s : St} {T : TypeId} (h : At w b (stC s).toArray T) (j : Nat) : w.cell? ⟨b, j, none⟩ = (stC s)[j]? := by
 rw [cell_of_row w b j _ _ _ h]; simp
theorem stP_dn (s : St) {t : Nat} (ht : t < 2) : (stC s)[4 + t * 10 + 8]? = some (.int .i64 (plS s t).dn) := by
 have hh : t = 0 ∨ t = 1 := by omega
 rcases hh with rfl | rfl <;> rfl
theorem stP_set_dn (s : St) {t : Nat} (ht : t < 2) (n : Int) : (stC (setP s t { plS s t with dn := n })).toArray = (stC s).toArray.setIfInBounds (4 + t * 10 + 8) (.int .i64 n) := by
 have hh : t = 0 ∨ t = 1 := by omega
 rcases hh with rfl | rfl <;> rfl

set_option maxRecDepth 100000 in
set_option maxHeartbeats 4000000 in
theorem rdown_c (t : Nat) (ht : t < 2) (a : Int) (s : St) (v : Value) (l : List Ev) (w : World) (h : Evs w v l) (hl : l.length ≤ 64) (hdi : 0 ≤ s.di ∧ s.di < 4294967296) (hd : 1 ≤ (plS s t).dn ∧ (plS s t).dn ≤ 30) :
 Calls Tryz.prog 17 #[.agg (stC s).toArray, v, .int .i64 t, .int .i64 a] w fun e w' => ∃ v', e = .returned (.tuple #[.agg (stC (restP t (s, l)).1).toArray, v']) ∧ Evs w' v' (restP t (s, l)).2 ∧ Below w.heap.size w w' ∧ Ev.Frv w w' v v' := by
 have HI := hid (stC_pt s t ht)
 have HRn := hid (fun x => rm_new w s x v l h)
 have HAn := hid ((At.new w (stC s).toArray 35).more (.cells (stC zeroS).toArray 35))
 have HRs : Hid (restP t (s, l) = if (plS s t).dn = 1 then ({ setP s t ⟨cornX (thI (nxI s.di) 4), cornY (thI (nxI s.di) 4), 0, 0, 0, 3, 0, 0, 0, (plS s t).sc⟩ with di := nxI s.di }, tel s.fr l (t + 1) 6 (cornX (thI (nxI s.di) 4))) else (setP s t { plS s t with dn := (plS s t).dn - 1 }, l)) := hid rfl
 have HDn := hid (stP_dn s ht)
 have HDs := hid (stP_set_dn s ht)
 have ht0 : (0 : Int) ≤ (t : Int) := by omega
 have ht1 : (t : Int) < 2 := by omega
 generalize plS s t = x at HI hd HRs HDn HDs
 have HR0 := hid (HRn.out x)
 clear HRn h
 generalize hC : stC s = cs at HAn HR0
 go_enter Tryz.func17, Tryz.ntmps17
 go_upto_region 1 with fail
 generalize hw : World.alloc (World.alloc w _) _ = w0
 have HA0 : Hid (At w0 w.heap.size (stC s).toArray 35) := hid (by rw [← hw, hC]; exact HAn.out)
 have HR1 : Hid (Rm w (w0.alloc (.cells (plA x) 29)) s x v v l) := hid (by rw [← hw]; exact HR0.out)
 have HZ : Hid (w0.heap.size = w.heap.size + 1 + 1) := hid (by rw [← hw]; simp)
 clear hw HAn HR0
 subst hC
 go_upto_region 2 with (refine wpList_load_at rfl 29 _ rfl w.heap.size (4 + t * 10) rfl 35 _ (plC x) (0, 0) _ HA0.out Tryz.underlying29 rfl (by kernel_rfl) HI.out ?_)
 have hz : w0.heap.size = w.heap.size + 1 + 1 := HZ.out
 generalize World.alloc w0 _ = w1 at HR1 ⊢
 rw [hz]
 clear hz HZ HA0
 have c0 : w1.cell? ⟨w.heap.size, 0, none⟩ = some (.int .i64 s.fr) := st_at HR1.out.st 0
 have cd : w1.cell? ⟨w.heap.size, 4 + t * 10 + 8, none⟩ = some (.int .i64 x.dn) := (st_at HR1.out.st _).trans HDn.out
 have cf := HR1.out.st.frozen
 obtain ⟨p0, p1, p2, p3, p4, p5, p6, p7, p8, p9⟩ := at_pl HR1.out.pl
 by_cases hd1 : x.dn = 1
 case neg =>
  have hd2 : 1 < x.dn := by omega
  have HS := hid (show restP t (s, l) = (setP s t { x with dn := x.dn - 1 }, l) by rw [HRs.out, if_neg hd1])
  go_upto_region 5 with fail
  have HR2 := hid (HR1.out.sets (HDs.out (x.dn - 1)))
  generalize World.setCell w1 _ _ = w2 at HR2 ⊢
  clear c0 cd cf p0 p1 p2 p3 p4 p5 p6 p7 p8 p9 HR1
  generalize setP s t { x with dn := x.dn - 1 } = S' at HR2 HS
  go_wp2_with (first
   | (refine wpList_load_at rfl 35 _ rfl w.heap.size 0 rfl 35 _ (stC S') (0, 0) _ HR2.out.st Tryz.underlying35 rfl (by kernel_rfl) (stC_slf S') ?_)
   | (refine wpList_store_at rfl 35 _ _ rfl (w.heap.size + 1) 0 (stC S') rfl rfl 35 _ HR2.out.res (by kernel_rfl) (by show 60 ≤ 60; decide) rfl ?_))
  obtain ⟨h1, h2, h3, h4⟩ := HR2.out.answer
  refine bodyPost_ret (results_cell_tmp rfl _ _ (w.heap.size + 1) 35 (stC S').toArray (0, 0) _ rfl h1 Tryz.underlying35 rfl (by kernel_rfl)) rfl ?_
  rw [HS.out]
  exact ⟨v, rfl, h2, h3, h4⟩
 case pos =>
  have HS := hid (show restP t (s, l) = ({ setP s t ⟨cornX (thI (nxI s.di) 4), cornY (thI (nxI s.di) 4), 0, 0, 0, 3, 0, 0, 0, x.sc⟩ with di := nxI s.di }, tel s.fr l (t + 1) 6 (cornX (thI (nxI s.di) 4))) by rw [HRs.out, if_pos hd1])
  have HTh := fun W => rthrow_c s.di 4 hdi (by decide) W
  have hk4 := th_bd (nxI s.di) 4 (nx_bd s.di) (by decide)
  have HV1 := fun W => rvec_c (-40) (-40) (by decide) (by decide) W
  have HV2 := fun W => rvec_c 40 (-40) (by decide) (by decide) W
  have HV3 := fun W => rvec_c (-40) 40 (by decide) (by decide) W
  have HV4 := fun W => rvec_c 40 40 (by decide) (by decide) W
  rw [show (-40 : Int) * 65536 = -2621440 by decide] at HV1 HV2 HV3
  rw [show (40 : Int) * 65536 = 2621440 by decide] at HV2 HV3 HV4
  have c1 : w1.cell? ⟨w.heap.size, 1, none⟩ = some (.int .u32 s.di) := st_at HR1.out.st 1
  go_upto_region 9 with (go_at_call 37; ((with_reducible refine (HTh _).mono ?_); rintro e w' ⟨rfl, rfl⟩))
  have HR2 := hid (HR1.out.sets (s' := { s with di := nxI s.di }) (j := 1) (u := .int .u32 (nxI s.di)) rfl)
  generalize World.setCell w1 _ _ = w2 at HR2 ⊢
  clear c0 c1 cd cf p0 p1 p2 p3 p4 p5 p6 p7 p8 p9 HR1 HTh
  go_upto_region 10 with (first
   | (go_at_call 36; ((with_reducible refine (HV1 _).mono ?_); rintro e w3 ⟨rfl, g3⟩; have HR3 := hid (HR2.out.below g3)))
   | (go_at_call 36; ((with_reducible refine (HV2 _).mono ?_); rintro e w4 ⟨rfl, g4⟩; have HR4 := hid (HR3.out.below g4)))
   | (go_at_call 36; ((with_reducible refine (HV3 _).mono ?_); rintro e w5 ⟨rfl, g5⟩; have HR5 := hid (HR4.out.below g5)))
   | (go_at_call 36; ((with_reducible refine (HV4 _).mono ?_); rintro e w6 ⟨rfl, g6⟩; have HR6 := hid (HR5.out.below g6))))
  have HR7 := hid (HR6.out.below (Ev.bal (Ev.br w6) (.cells #[.int .i32 (-2621440), .int .i32 (-2621440), .int .i32 2621440, .int .i32 (-2621440), .int .i32 (-2621440), .int .i32 2621440, .int .i32 2621440, .int .i32 2621440] 27)))
  have HK7 := hid (At.new w6 #[.int .i32 (-2621440), .int .i32 (-2621440), .int .i32 2621440, .int .i32 (-2621440), .int .i32 (-2621440), .int .i32 2621440, .int .i32 2621440, .int .i32 2621440] 27)
  have hK0 : w.heap.size + 1 + 1 < w6.heap.size := HR6.out.pl.lt
  generalize World.alloc w6 _ = w7 at HR7 HK7 ⊢
  generalize w6.heap.size = K0 at HK7 hK0 ⊢
  clear HR2 HR3 HR4 HR5 HR6 HV1 HV2 HV3 HV4
  obtain ⟨kk, hkk⟩ : ∃ kk : Nat, thI (nxI s.di) 4 = kk := ⟨(thI (nxI s.di) 4).toNat, by omega⟩
  have hkk4 : kk < 4 := by omega
  rw [hkk] at HS ⊢
  clear hk4 hkk
  have hki0 : (0 : Int) ≤ (kk : Int) := by omega
  have hki1 : (kk : Int) < 4 := by omega
  have hXb : -2621440 ≤ cornX kk ∧ cornX kk ≤ 2621440 := by unfold cornX; split <;> decide
  obtain ⟨X, HX⟩ : ∃ X, Hid (X = cornX kk) := ⟨_, hid rfl⟩
  obtain ⟨Y, HY⟩ : ∃ Y, Hid (Y = cornY kk) := ⟨_, hid rfl⟩
  rw [← HX.out, ← HY.out] at HS
  rw [← HX.out] at hXb
  have corn_x : ∀ {W : World}, At W K0 #[.int .i32 (-2621440), .int .i32 (-2621440), .int .i32 2621440, .int .i32 (-2621440), .int .i32 (-2621440), .int .i32 2621440, .int .i32 2621440, .int .i32 2621440] 27 → kk < 4 → W.cell? ⟨K0, kk * 2, none⟩ = some (.int .i32 X) := by
   intro W hA hk
   rw [cell_of_row _ _ _ _ _ _ hA, HX.out]
   have hh : kk = 0 ∨ kk = 1 ∨ kk = 2 ∨ kk = 3 := by omega
   rcases hh with rfl | rfl | rfl | rfl <;> rfl
  have corn_y : ∀ {W : World}, At W K0 #[.int .i32 (-2621440), .int .i32 (-2621440), .int .i32 2621440, .int .i32 (-2621440), .int .i32 (-2621440), .int .i32 2621440, .int .i32 2621440, .int .i32 2621440] 27 → kk < 4 → W.cell? ⟨K0, kk * 2 + 1, none⟩ = some (.int .i32 Y) := by
   intro W hA hk
   rw [cell_of_row _ _ _ _ _ _ hA, HY.out]
   have hh : kk = 0 ∨ kk = 1 ∨ kk = 2 ∨ kk = 3 := by omega
   rcases hh with rfl | rfl | rfl | rfl <;> rfl
  have HTold : ∀ W, Evs W v l → Calls Tryz.prog 19 #[v, .int .i64 s.fr, .int .i64 ((t : Int) + 1), .int .i64 6, .int .i64 16384, .int .i64 9, .int .i64 0, .int .i32 X] W fun r w' => ∃ v', r = .returned v' ∧ Evs w' v' (tel s.fr l ((t : Int) + 1) 6 X) ∧ Below W.heap.size W w' ∧ Ev.Frv W w' v v' := fun W hv => rtold_c 6 (by decide) (by decide) v l s.fr ((t : Int) + 1) X W hv hl ⟨by omega, by omega⟩ ⟨by omega, by omega⟩
  refine wp_region_noPanic ?_
  refine wp_region_held_drew (S := (fun W => At W K0 #[.int .i32 (-2621440), .int .i32 (-2621440), .int .i32 2621440, .int .i32 (-2621440), .int .i32 (-2621440), .int .i32 2621440, .int .i32 2621440, .int .i32 2621440] 27 ∧ At W (w.heap.size + 1 + 1) (plA x) 29)) (by kernel_rfl) ⟨HK7.out.drew, HR7.out.pl.drew⟩ (fun hHeld => ?_)
  have HR8 := hid (HR7.out.below (Ev.bd1 (Ev.br w7)))
  have HK8 := hid HK7.out.drew
  clear HR7 HK7
  generalize World.drew w7 = w8 at HR8 HK8 hHeld ⊢
  (refine tk 0 53 ?_ rfl rfl (by kernel_rfl) (by rfl) ?_ (by assumption) ?_)
  rotate_left
  · (intro W hSW; go_simp; (try with_reducible rfl))
  simp only [Act.put, pu1, pu2, pu3]
  (refine tk 1 54 ?_ rfl rfl (by kernel_rfl) (by rfl) ?_ (by assumption) ?_)
  rotate_left
  · (intro W hSW; go_simp; (try with_reducible rfl))
  simp only [Act.put, pu1, pu2, pu3]
  (refine tk 2 55 ?_ rfl rfl (by kernel_rfl) (by rfl) ?_ (by assumption) ?_)
  rotate_left
  · (intro W hSW; go_simp; (try with_reducible rfl))
  simp only [Act.put, pu1, pu2, pu3]
  (refine tk 3 56 ?_ rfl rfl (by kernel_rfl) (by rfl) ?_ (by assumption) ?_)
  rotate_left
  · (intro W hSW; go_simp; (try with_reducible rfl))
  simp only [Act.put, pu1, pu2, pu3]
  (refine tk 4 57 ?_ rfl rfl (by kernel_rfl) (by rfl) ?_ (by assumption) ?_)
  rotate_left
  · (intro W hSW; have e1 := corn_x hSW.1 hkk4; have e2 := corn_y hSW.1 hkk4; obtain ⟨p0, p1, p2, p3, p4, p5, p6, p7, p8, p9⟩ := at_pl hSW.2; go_simp; (try with_reducible rfl))
  simp only [Act.put, pu1, pu2, pu3]
  (refine tk 5 58 ?_ rfl rfl (by kernel_rfl) (by rfl) ?_ (by assumption) ?_)
  rotate_left
  · (intro W hSW; go_simp; (try with_reducible rfl))
  simp only [Act.put, pu1, pu2, pu3]
  (refine tk 6 59 ?_ rfl rfl (by kernel_rfl) (by rfl) ?_ (by assumption) ?_)
  rotate_left
  · (intro W hSW; have e1 := corn_x hSW.1 hkk4; have e2 := corn_y hSW.1 hkk4; obtain ⟨p0, p1, p2, p3, p4, p5, p6, p7, p8, p9⟩ := at_pl hSW.2; go_simp; (try with_reducible rfl))
  simp only [Act.put, pu1, pu2, pu3]
  (refine tk 7 60 ?_ rfl rfl (by kernel_rfl) (by rfl) ?_ (by assumption) ?_)
  rotate_left
  · (intro W hSW; go_simp; (try with_reducible rfl))
  simp only [Act.put, pu1, pu2, pu3]
  (refine tk 8 61 ?_ rfl rfl (by kernel_rfl) (by rfl) ?_ (by assumption) ?_)
  rotate_left
  · (intro W hSW; go_simp; (try with_reducible rfl))
  simp only [Act.put, pu1, pu2, pu3]
  (refine tk 9 62 ?_ rfl rfl (by kernel_rfl) (by rfl) ?_ (by assumption) ?_)
  rotate_left
  · (intro W hSW; go_simp; (try with_reducible rfl))
  simp only [Act.put, pu1, pu2, pu3]
  refine wpAnyH_ready (rs := [10]) (by kernel_rfl) (by simp) ?_
  refine AllReadyH.cons (i := 10) rfl (fun K hKK => ?_) AllReadyH.nil
  rw [if_pos (by rfl)]
  refine wp_store_at 29 _ _ rfl w.heap.size (4 + t * 10) (plC ⟨X, Y, 0, 0, 0, 3, 0, 0, 0, x.sc⟩) rfl rfl 35 _ HR8.out.st (by kernel_rfl) (by show 4 + t * 10 + 10 ≤ 60; omega) rfl ?_
  change K (Act.put _ none undef) (w8.setRow w.heap.size (List.take (4 + t * 10) (stC { s with di := nxI s.di }) ++ plC ⟨X, Y, 0, 0, 0, 3, 0, 0, 0, x.sc⟩ ++ List.drop (4 + t * 10 + 10) (stC { s with di := nxI s.di })).toArray)
  rw [stP_row _ ht]
  have HR9 := hid (HR8.out.row (setP { s with di := nxI s.di } t ⟨X, Y, 0, 0, 0, 3, 0, 0, 0, x.sc⟩))
  have HK9 := hid (at_row_far HK8.out (show K0 ≠ w.heap.size by omega) (stC (setP { s with di := nxI s.di } t ⟨X, Y, 0, 0, 0, 3, 0, 0, 0, x.sc⟩)).toArray)
  refine hKK.out _ _ ⟨HK9.out, HR9.out.pl⟩ (fun hHeld => ?_)
  clear hKK K
  (try simp only [Act.put])
  generalize World.setRow w8 _ _ = w9 at HR9 HK9 hHeld ⊢
  refine wpAnyH_done (by kernel_rfl) ?_ _
  refine NoPanic.normal ?_
  have HSS : Hid (restP t (s, l) = (setP { s with di := nxI s.di } t ⟨X, Y, 0, 0, 0, 3, 0, 0, 0, x.sc⟩, tel s.fr l (t + 1) 6 X)) := hid (by
   rw [HS.out]
   have hh : t = 0 ∨ t = 1 := by omega
   rcases hh with rfl | rfl <;> rfl)
  have HW1 := hid (IntWalk.i64_in ((t : Int) + 1) (by omega))
  generalize setP { s with di := nxI s.di } t ⟨X, Y, 0, 0, 0, 3, 0, 0, 0, x.sc⟩ = S3 at HR9 HSS
  clear HR8 HK8 HS
  go_upto_region 11 with fail
  refine wp_region_noPanic ?_
  refine wp_region_held_drew (S := (fun W => At W w.heap.size (stC S3).toArray 35 ∧ At W K0 #[.int .i32 (-2621440), .int .i32 (-2621440), .int .i32 2621440, .int .i32 (-2621440), .int .i32 (-2621440), .int .i32 2621440, .int .i32 2621440, .int .i32 2621440] 27)) (by kernel_rfl) ⟨HR9.out.st.drew, HK9.out.drew⟩ (fun hHeld => ?_)
  have HR10 := hid (HR9.out.below (Ev.bd1 (Ev.br w9)))
  have HK10 := hid HK9.out.drew
  clear HR9 HK9
  generalize World.drew w9 = w10 at HR10 HK10 hHeld ⊢
  (refine tk 0 63 (.agg (stC S3).toArray) rfl rfl (by kernel_rfl) (by rfl) ?_ (by assumption) ?_)
  · (intro W hSW; exact exec_load_at W 35 _ rfl w.heap.size 0 rfl 35 _ (stC S3) (0, 0) _ hSW.1 Tryz.underlying35 rfl (by kernel_rfl) (stC_slf S3))
  simp only [Act.put, pu1, pu2, pu3]
  (refine tk 1 64 ?_ rfl rfl (by kernel_rfl) (by rfl) ?_ (by assumption) ?_)
  rotate_left
  · (intro W hSW; go_simp; (try with_reducible rfl))
  simp only [Act.put, pu1, pu2, pu3]
  (refine tk 2 65 ?_ rfl rfl (by kernel_rfl) (by rfl) ?_ (by assumption) ?_)
  rotate_left
  · (intro W hSW; go_simp; (try with_reducible rfl))
  simp only [Act.put, pu1, pu2, pu3]
  (refine tk 3 66 ?_ rfl rfl (by kernel_rfl) (by rfl) ?_ (by assumption) ?_)
  rotate_left
  · (intro W hSW; go_simp; (try with_reducible rfl))
  simp only [Act.put, pu1, pu2, pu3]
  (refine tk 4 67 ?_ rfl rfl (by kernel_rfl) (by rfl) ?_ (by assumption) ?_)
  rotate_left
  · (intro W hSW; have hw1 := HW1.out; go_simp; (try with_reducible rfl))
  simp only [Act.put, pu1, pu2, pu3]
  (refine tk 5 68 ?_ rfl rfl (by kernel_rfl) (by rfl) ?_ (by assumption) ?_)
  rotate_left
  · (intro W hSW; go_simp; (try with_reducible rfl))
  simp only [Act.put, pu1, pu2, pu3]
  (refine tk 6 69 ?_ rfl rfl (by kernel_rfl) (by rfl) ?_ (by assumption) ?_)
  rotate_left
  · (intro W hSW; go_simp; (try with_reducible rfl))
  simp only [Act.put, pu1, pu2, pu3]
  (refine tk 7 70 ?_ rfl rfl (by kernel_rfl) (by rfl) ?_ (by assumption) ?_)
  rotate_left
  · (intro W hSW; go_simp; (try with_reducible rfl))
  simp only [Act.put, pu1, pu2, pu3]
  (refine tk 8 71 ?_ rfl rfl (by kernel_rfl) (by rfl) ?_ (by assumption) ?_)
  rotate_left
  · (intro W hSW; go_simp; (try with_reducible rfl))
  simp only [Act.put, pu1, pu2, pu3]
  (refine tk 9 72 ?_ rfl rfl (by kernel_rfl) (by rfl) ?_ (by assumption) ?_)
  rotate_left
  · (intro W hSW; have e1 := corn_x hSW.2 hkk4; have e2 := corn_y hSW.2 hkk4; go_simp; (try with_reducible rfl))
  simp only [Act.put, pu1, pu2, pu3]
  refine wpAnyH_ready (rs := [10]) (by kernel_rfl) (by simp) ?_
  refine AllReadyH.cons (i := 10) rfl (fun K hKK => ?_) AllReadyH.nil
  go_simp
  (with_reducible refine (HTold _ HR10.out.ev).mono ?_)
  rintro e w11 ⟨v', rfl, hv, g11, hf⟩
  have HR11 := hid (HR10.out.told hv g11 hf)
  have HK11 := hid (HK10.out.below g11)
  clear hv g11 hf
  dsimp only
  refine hKK.out _ _ ⟨HR11.out.st, HK11.out⟩ (fun hHeld => ?_)
  clear hKK K
  (try simp only [Act.put, pu1, pu2, pu3])
  refine wpAnyH_ready (rs := [11]) (by kernel_rfl) (by simp) ?_
  refine AllReadyH.cons (i := 11) rfl (fun K hKK => ?_) AllReadyH.nil
  rw [if_pos (by rfl)]
  refine wp_store_at 35 _ _ rfl (w.heap.size + 1) 0 (stC S3) rfl rfl 35 _ HR11.out.res (by kernel_rfl) (by show 60 ≤ 60; decide) rfl ?_
  change K (Act.put _ none undef) (w11.setRow (w.heap.size + 1) (stC S3).toArray)
  obtain ⟨h1, h2, h3, h4⟩ := HR11.out.answer
  have H1 := hid h1; have H2 := hid h2; have H3 := hid h3; have H4 := hid h4; clear h1 h2 h3 h4
  refine hKK.out _ _ ⟨at_row_far HR11.out.st (by omega) _, at_row_far HK11.out (by omega) _⟩ (fun hHeld => ?_)
  clear hKK K
  (try simp only [Act.put])
  generalize World.setRow w11 _ _ = w12 at H1 H2 H3 H4 hHeld ⊢
  refine wpAnyH_ready (rs := [12]) (by kernel_rfl) (by simp) ?_
  refine AllReadyH.cons (i := 12) rfl (fun K hKK => ?_) AllReadyH.nil
  go_simp
  refine hKK.out _ _ hHeld (fun hHeld => ?_)
  clear hKK K
  (try simp only [Act.put, pu1, pu2, pu3])
  refine wpAnyH_done (by kernel_rfl) ?_ _
  refine NoPanic.normal ?_
  go_wp2_with fail
  refine bodyPost_ret (results_cell_tmp rfl _ _ (w.heap.size + 1) 35 (stC S3).toArray (0, 0) _ rfl H1.out Tryz.underlying35 rfl (by kernel_rfl)) rfl ?_
  rw [HSS.out]
  exact ⟨v', rfl, H2.out, H3.out, H4.out⟩

end Go.Proofs.YtigjflacinlafaaGreatDoor.Gm
