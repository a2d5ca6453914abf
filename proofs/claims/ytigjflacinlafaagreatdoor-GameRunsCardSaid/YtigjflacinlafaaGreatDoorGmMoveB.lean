/- The way of the other one goes on (layer 12, game). -/
import Derived.Test.YtigjflacinlafaaGreatDoorGmFire
import Derived.Deep.RegionHeld3
import Derived.Deep.DeepCutAuto
import Derived.Deep.RegionWith
namespace Go.Proofs.YtigjflacinlafaaGreatDoor.Gm
open Go.RowKit Go.Proofs.YtigjflacinlafaaGreatDoor.Fx Go.Proofs.YtigjflacinlafaaGreatDoor.Tg Go.Proofs.YtigjflacinlafaaGreatDoor.Dc
open Go.Proofs.YtigjflacinlafaaGreatDoor.Ev (Ev Ky addR pageI At ecs Pg Evs)
open Go.Proofs.YtigjflacinlafaaGreatDoor.Sh (In32 vec box insideB touchB slI mvP mvV wallI)
set_option linter.unusedVariables false

set_option maxRecDepth 100000 in
set_option maxHeartbeats 4000000 in
theorem move1_c {w : World} {n b pb : Nat} {s : St} {l : List Ev} (h : Gs w n b pb s l) (hp : Mp s.p1) :
 Calls Tryz.prog 57 #[.pointer (some ⟨b, 0, none⟩), .int .i64 1] w fun e w' => e = .returned (.tuple #[]) ∧ Gk w w' n b pb { s with p1 := (moveP s.fr 2 (s.p1, l)).1 } (moveP s.fr 2 (s.p1, l)).2 := by
 have HK := hid h.gk
 have h1 := in32_of hp.ax
 have h2 := in32_of hp.ay
 have hs1 : In32 (slowX s.p1) := slow_bd _ _ _ (sat_bd _)
 have hs2 : In32 (slowY s.p1) := slow_bd _ _ _ (sat_bd _)
 have HSl := fun W => Sh.slow_c s.p1.vx s.p1.vy 61440 131072 hp.vx hp.vy (by decide) (by decide) W
 have HMv := fun W => Sh.move_ok s.p1.ax s.p1.ay (slowX s.p1) (slowY s.p1) (-3932160) (-3932160) 3932160 3932160 h1 h2 hs1 hs2 (by decide) (by decide) (by decide) (by decide) (by decide) W
 have HR : Hid (moveP s.fr 2 (s.p1, l) = ({ s.p1 with ax := mvP s.p1.ax (slowX s.p1) (-3932160) 3932160, ay := mvP s.p1.ay (slowY s.p1) (-3932160) 3932160, vx := mvV s.p1.ax (slowX s.p1) (-3932160) 3932160, vy := mvV s.p1.ay (slowY s.p1) (-3932160) 3932160 }, if wallI s.p1.ax s.p1.ay (slowX s.p1) (slowY s.p1) (-3932160) (-3932160) 3932160 3932160 = 0 then l else tel s.fr l 2 3 (mvP s.p1.ax (slowX s.p1) (-3932160) 3932160))) := hid rfl
 have hX : ∃ X Y U V' W' A B : Int, Hid (X = mvP s.p1.ax (slowX s.p1) (-3932160) 3932160 ∧ Y = mvP s.p1.ay (slowY s.p1) (-3932160) 3932160 ∧ U = mvV s.p1.ax (slowX s.p1) (-3932160) 3932160 ∧ V' = mvV s.p1.ay (slowY s.p1) (-3932160) 3932160 ∧ W' = wallI s.p1.ax s.p1.ay (slowX s.p1) (slowY s.p1) (-3932160) (-3932160) 3932160 3932160 ∧ A = slowX s.p1 ∧ B = slowY s.p1) := ⟨_, _, _, _, _, _, _, rfl, rfl, rfl, rfl, rfl, rfl, rfl⟩
 obtain ⟨X, Y, U, V', W', A, B, hX⟩ := hX
 obtain ⟨x1, x2, x3, x4, x5, x6, x7⟩ := hX.out
 have hXb : Hid (-4194304 ≤ X ∧ X ≤ 4194304) := hid (by rw [x1]; exact mvP_bd _ _)
 rw [← x1, ← x2, ← x3, ← x4, ← x5, ← x6, ← x7] at HMv
 rw [← x1, ← x2, ← x3, ← x4, ← x5] at HR
 change ∀ W, Calls _ _ _ W (fun e w' => e = .returned (vec (slowX s.p1) (slowY s.p1)) ∧ _) at HSl
 rw [← x6, ← x7] at HSl
 clear hX x1 x2 x3 x4 x5 x6 x7 hs1 hs2
 go_enter Tryz.func57, Tryz.ntmps57
 go_upto_region 1 with fail
 go_cut [4, 5, 6, 7] (fun s4 s5 s6 s7 wx => s4 = .pointer (some ⟨b, 14, none⟩) ∧ ∃ B C, s5 = .pointer (some ⟨B, 0, none⟩) ∧ s6 = .pointer (some ⟨C, 0, none⟩) ∧ s7 = .int .i64 W' ∧ Gk w wx n b pb s l ∧ At wx B #[.int .i32 X, .int .i32 Y] 27 ∧ At wx C #[.int .i32 U, .int .i32 V'] 27)
 case first =>
  have hK := hid (fun W (g : Below w.heap.size w W) => (HK.out.below g).gs.p1)
  have HK0 := hid (HK.out.below (Ev.bd1 (Ev.br _)))
  have HB0 := hid (Ev.bd1 (Ev.br w))
  have hnw := h.size
  refine wp_region_noPanic ?_
  refine wp_region_held_drew (S := (fun W => Below w.heap.size w W)) (by kernel_rfl) HB0.out (fun hHeld => ?_)
  generalize World.drew w = u0 at HK0 HB0 hHeld ⊢
  (refine tk 0 16 ?_ rfl rfl (by kernel_rfl) (by rfl) ?_ (by assumption) ?_)
  rotate_left
  · (intro W hSW; go_simp; (try with_reducible rfl))
  simp only [Act.put, pu1, pu2, pu3]
  (refine tk 1 17 ?_ rfl rfl (by kernel_rfl) (by rfl) ?_ (by assumption) ?_)
  rotate_left
  · (intro W hSW; go_simp; (try with_reducible rfl))
  simp only [Act.put, pu1, pu2, pu3]
  (refine tk 2 18 ?_ rfl rfl (by kernel_rfl) (by rfl) ?_ (by assumption) ?_)
  rotate_left
  · (intro W hSW; go_simp; (try with_reducible rfl))
  simp only [Act.put, pu1, pu2, pu3]
  (refine tk 3 19 ?_ rfl rfl (by kernel_rfl) (by rfl) ?_ (by assumption) ?_)
  rotate_left
  · (intro W hSW; have hSW2 := hK.out W hSW; go_simp; (try with_reducible rfl))
  simp only [Act.put, pu1, pu2, pu3]
  (refine tk 4 20 ?_ rfl rfl (by kernel_rfl) (by rfl) ?_ (by assumption) ?_)
  rotate_left
  · (intro W hSW; go_simp; (try with_reducible rfl))
  simp only [Act.put, pu1, pu2, pu3]
  (refine tk 5 21 ?_ rfl rfl (by kernel_rfl) (by rfl) ?_ (by assumption) ?_)
  rotate_left
  · (intro W hSW; go_simp; (try with_reducible rfl))
  simp only [Act.put, pu1, pu2, pu3]
  (refine tk 6 22 ?_ rfl rfl (by kernel_rfl) (by rfl) ?_ (by assumption) ?_)
  rotate_left
  · (intro W hSW; go_simp; (try with_reducible rfl))
  simp only [Act.put, pu1, pu2, pu3]
  (refine tk 7 23 ?_ rfl rfl (by kernel_rfl) (by rfl) ?_ (by assumption) ?_)
  rotate_left
  · (intro W hSW; have hSW2 := hK.out W hSW; go_simp; (try with_reducible rfl))
  simp only [Act.put, pu1, pu2, pu3]
  refine wpAnyH_ready (rs := [8, 16, 17]) (by kernel_rfl) (by simp) ?_
  refine AllReadyH.cons (i := 8) rfl (fun K hKK => ?_) ?_
  · go_simp
    (refine (HSl _).mono ?_)
    rintro e u1 ⟨rfl, g1⟩
    have HK1 := hid (HK0.out.below g1)
    have HB1 := hid (Ev.bt HB0.out g1)
    dsimp only
    refine hKK.out _ _ HB1.out (fun hHeld => ?_)
    clear hKK K
    (try simp only [Act.put, pu1, pu2, pu3])
    refine wpAnyH_ready (rs := [9, 16, 17]) (by kernel_rfl) (by simp) ?_
    refine AllReadyH.cons (i := 9) rfl (fun K hKK => ?_) ?_
    · go_simp
      (refine (playersbox_c _).mono ?_)
      rintro e u2 ⟨rfl, g2⟩
      have HK2 := hid (HK1.out.below g2)
      have HB2 := hid (Ev.bt HB1.out g2)
      dsimp only
      refine hKK.out _ _ HB2.out (fun hHeld => ?_)
      clear hKK K
      (try simp only [Act.put, pu1, pu2, pu3])
      refine wpAnyH_ready (rs := [10, 16, 17]) (by kernel_rfl) (by simp) ?_
      refine AllReadyH.cons (i := 10) rfl (fun K hKK => ?_) ?_
      · go_simp
        (refine (HMv _).mono ?_)
        rintro e u3 ⟨rfl, g3⟩
        have HK3 := hid (HK2.out.below g3)
        have HB3 := hid (Ev.bt HB2.out g3)
        dsimp only
        refine hKK.out _ _ HB3.out (fun hHeld => ?_)
        clear hKK K
        (try simp only [Act.put, pu1, pu2, pu3])
        (refine tk 11 15 ?_ rfl rfl (by kernel_rfl) (by rfl) ?_ (by assumption) ?_)
        rotate_left
        · (intro W hSW; go_simp; (try with_reducible rfl))
        simp only [Act.put, pu1, pu2, pu3]
        (refine tk 12 27 ?_ rfl rfl (by kernel_rfl) (by rfl) ?_ (by assumption) ?_)
        rotate_left
        · (intro W hSW; go_simp; (try with_reducible rfl))
        simp only [Act.put, pu1, pu2, pu3]
        (refine tk 13 28 ?_ rfl rfl (by kernel_rfl) (by rfl) ?_ (by assumption) ?_)
        rotate_left
        · (intro W hSW; go_simp; (try with_reducible rfl))
        simp only [Act.put, pu1, pu2, pu3]
        (refine tk 14 29 ?_ rfl rfl (by kernel_rfl) (by rfl) ?_ (by assumption) ?_)
        rotate_left
        · (intro W hSW; go_simp; (try with_reducible rfl))
        simp only [Act.put, pu1, pu2, pu3]
        (refine tk 15 30 ?_ rfl rfl (by kernel_rfl) (by rfl) ?_ (by assumption) ?_)
        rotate_left
        · (intro W hSW; go_simp; (try with_reducible rfl))
        simp only [Act.put, pu1, pu2, pu3]
        refine wpAnyH_ready (rs := [16, 17]) (by kernel_rfl) (by simp) ?_
        refine AllReadyH.cons (i := 16) rfl (fun K hKK => ?_) ?_
        · go_simp
          have HA5_4 := hid (At.new u3 #[.int .i32 0, .int .i32 0] 27)
          have HK4 := hid (HK3.out.below (Ev.bal (Ev.br u3) (.cells #[.int .i32 0, .int .i32 0] 27)))
          have HB4 := hid (Ev.bal HB3.out (.cells #[.int .i32 0, .int .i32 0] 27))
          have HG5 := hid (show w.heap.size ≤ u3.heap.size from HB3.out.size)
          refine hKK.out _ _ HB4.out (fun hHeld => ?_)
          clear hKK K
          (try simp only [Act.put, pu1, pu2, pu3])
          generalize World.alloc u3 _ = u4 at HK4 HB4 HA5_4 hHeld ⊢
          generalize u3.heap.size = B5 at HA5_4 HG5 ⊢
          refine wpAnyH_ready (rs := [17]) (by kernel_rfl) (by simp) ?_
          refine AllReadyH.cons (i := 17) rfl (fun K hKK => ?_) AllReadyH.nil
          go_simp
          have HA6_5 := hid (At.new u4 #[.int .i32 0, .int .i32 0] 27)
          have HK5 := hid (HK4.out.below (Ev.bal (Ev.br u4) (.cells #[.int .i32 0, .int .i32 0] 27)))
          have HB5 := hid (Ev.bal HB4.out (.cells #[.int .i32 0, .int .i32 0] 27))
          have HG6 := hid (show w.heap.size ≤ u4.heap.size from HB4.out.size)
          have HA5_5 := hid (HA5_4.out.more (.cells #[.int .i32 0, .int .i32 0] 27))
          have HN := hid (Nat.ne_of_lt HA5_4.out.lt)
          refine hKK.out _ _ HB5.out (fun hHeld => ?_)
          clear hKK K
          (try simp only [Act.put, pu1, pu2, pu3])
          generalize World.alloc u4 _ = u5 at HK5 HB5 HA6_5 HA5_5 hHeld ⊢
          generalize u4.heap.size = B6 at HA6_5 HG6 HN ⊢
          have HNE := hid (show B5 ≠ B6 from HN.out)
          refine wpAnyH_ready (rs := [18]) (by kernel_rfl) (by simp) ?_
          refine AllReadyH.cons (i := 18) rfl (fun K hKK => ?_) AllReadyH.nil
          obtain ⟨k0, k1⟩ := HA5_5.out.two
          have kf := HA5_5.out.frozen
          go_simp
          have HA5_6 : Hid (At ((u5.setCell ⟨B5, 0, none⟩ (.int .i32 X)).setCell ⟨B5, 1, none⟩ (.int .i32 Y)) B5 #[.int .i32 X, .int .i32 Y] 27) := hid (at_set (at_set HA5_5.out 0 _) 1 _)
          have HA6_6 := hid ((HA6_5.out.far (j := 0) (Ne.symm HNE.out) (.int .i32 X)).far (j := 1) (Ne.symm HNE.out) (.int .i32 Y))
          have HK6 := hid ((HK5.out.other HA5_5.out (by decide) (by decide) (by decide) HG5.out (Nat.le_trans hnw HG5.out) 0 (.int .i32 X)).other (at_set HA5_5.out 0 (.int .i32 X)) (by decide) (by decide) (by decide) HG5.out (Nat.le_trans hnw HG5.out) 1 (.int .i32 Y))
          have HB6 := hid ((HB5.out.setCell (p := ⟨B5, 0, none⟩) HG5.out (.int .i32 X)).setCell (p := ⟨B5, 1, none⟩) HG5.out (.int .i32 Y))
          refine hKK.out _ _ HB6.out (fun hHeld => ?_)
          clear hKK K k0 k1 kf
          (try simp only [Act.put, pu1, pu2, pu3])
          generalize World.setCell (World.setCell u5 _ _) _ _ = u6 at HK6 HB6 HA5_6 HA6_6 hHeld ⊢
          refine wpAnyH_ready (rs := [19]) (by kernel_rfl) (by simp) ?_
          refine AllReadyH.cons (i := 19) rfl (fun K hKK => ?_) AllReadyH.nil
          obtain ⟨k0, k1⟩ := HA6_6.out.two
          have kf := HA6_6.out.frozen
          go_simp
          have HA6_7 : Hid (At ((u6.setCell ⟨B6, 0, none⟩ (.int .i32 U)).setCell ⟨B6, 1, none⟩ (.int .i32 V')) B6 #[.int .i32 U, .int .i32 V'] 27) := hid (at_set (at_set HA6_6.out 0 _) 1 _)
          have HA5_7 := hid ((HA5_6.out.far (j := 0) HNE.out (.int .i32 U)).far (j := 1) HNE.out (.int .i32 V'))
          have HK7 := hid ((HK6.out.other HA6_6.out (by decide) (by decide) (by decide) HG6.out (Nat.le_trans hnw HG6.out) 0 (.int .i32 U)).other (at_set HA6_6.out 0 (.int .i32 U)) (by decide) (by decide) (by decide) HG6.out (Nat.le_trans hnw HG6.out) 1 (.int .i32 V'))
          have HB7 := hid ((HB6.out.setCell (p := ⟨B6, 0, none⟩) HG6.out (.int .i32 U)).setCell (p := ⟨B6, 1, none⟩) HG6.out (.int .i32 V'))
          refine hKK.out _ _ HB7.out (fun hHeld => ?_)
          clear hKK K k0 k1 kf
          (try simp only [Act.put, pu1, pu2, pu3])
          generalize World.setCell (World.setCell u6 _ _) _ _ = u7 at HK7 HB7 HA5_7 HA6_7 hHeld ⊢
          refine wpAnyH_ready (rs := [20]) (by kernel_rfl) (by simp) ?_
          refine AllReadyH.cons (i := 20) rfl (fun K hKK => ?_) AllReadyH.nil
          go_simp
          have HK8 := HK7
          have HB8 := HB7
          have HA5_8 := HA5_7
          have HA6_8 := HA6_7
          refine hKK.out _ _ HB8.out (fun hHeld => ?_)
          clear hKK K
          (try simp only [Act.put, pu1, pu2, pu3])
          obtain ⟨u8, hu8⟩ : ∃ z, z = u7 := ⟨_, rfl⟩
          rw [← hu8] at HK8 HB8 HA5_8 HA6_8 hHeld ⊢
          clear hu8
          refine wpAnyH_ready (rs := [21]) (by kernel_rfl) (by simp) ?_
          refine AllReadyH.cons (i := 21) rfl (fun K hKK => ?_) AllReadyH.nil
          go_simp
          have HK9 := HK8
          have HB9 := HB8
          have HA5_9 := HA5_8
          have HA6_9 := HA6_8
          refine hKK.out _ _ HB9.out (fun hHeld => ?_)
          clear hKK K
          (try simp only [Act.put, pu1, pu2, pu3])
          obtain ⟨u9, hu9⟩ : ∃ z, z = u8 := ⟨_, rfl⟩
          rw [← hu9] at HK9 HB9 HA5_9 HA6_9 hHeld ⊢
          clear hu9
          refine wpAnyH_done (by kernel_rfl) ?_ _
          refine NoPanic.normal ?_
          go_wp2_with fail
          go_meet
          case rel => exact ⟨rfl, B5, B6, rfl, rfl, rfl, HK9.out, HA5_9.out, HA6_9.out⟩
        refine AllReadyH.cons (i := 17) rfl (fun K hKK => ?_) AllReadyH.nil
        go_simp
        have HA6_10 := hid (At.new u3 #[.int .i32 0, .int .i32 0] 27)
        have HK10 := hid (HK3.out.below (Ev.bal (Ev.br u3) (.cells #[.int .i32 0, .int .i32 0] 27)))
        have HB10 := hid (Ev.bal HB3.out (.cells #[.int .i32 0, .int .i32 0] 27))
        have HG6 := hid (show w.heap.size ≤ u3.heap.size from HB3.out.size)
        refine hKK.out _ _ HB10.out (fun hHeld => ?_)
        clear hKK K
        (try simp only [Act.put, pu1, pu2, pu3])
        generalize World.alloc u3 _ = u10 at HK10 HB10 HA6_10 hHeld ⊢
        generalize u3.heap.size = B6 at HA6_10 HG6 ⊢
        refine wpAnyH_ready (rs := [16]) (by kernel_rfl) (by simp) ?_
        refine AllReadyH.cons (i := 16) rfl (fun K hKK => ?_) AllReadyH.nil
        go_simp
        have HA5_11 := hid (At.new u10 #[.int .i32 0, .int .i32 0] 27)
        have HK11 := hid (HK10.out.below (Ev.bal (Ev.br u10) (.cells #[.int .i32 0, .int .i32 0] 27)))
        have HB11 := hid (Ev.bal HB10.out (.cells #[.int .i32 0, .int .i32 0] 27))
        have HG5 := hid (show w.heap.size ≤ u10.heap.size from HB10.out.size)
        have HA6_11 := hid (HA6_10.out.more (.cells #[.int .i32 0, .int .i32 0] 27))
        have HN := hid (Nat.ne_of_lt HA6_10.out.lt)
        refine hKK.out _ _ HB11.out (fun hHeld => ?_)
        clear hKK K
        (try simp only [Act.put, pu1, pu2, pu3])
        generalize World.alloc u10 _ = u11 at HK11 HB11 HA5_11 HA6_11 hHeld ⊢
        generalize u10.heap.size = B5 at HA5_11 HG5 HN ⊢
        have HNE := hid (show B5 ≠ B6 from Ne.symm HN.out)
        refine wpAnyH_ready (rs := [18]) (by kernel_rfl) (by simp) ?_
        refine AllReadyH.cons (i := 18) rfl (fun K hKK => ?_) AllReadyH.nil
        obtain ⟨k0, k1⟩ := HA5_11.out.two
        have kf := HA5_11.out.frozen
        go_simp
        have HA5_12 : Hid (At ((u11.setCell ⟨B5, 0, none⟩ (.int .i32 X)).setCell ⟨B5, 1, none⟩ (.int .i32 Y)) B5 #[.int .i32 X, .int .i32 Y] 27) := hid (at_set (at_set HA5_11.out 0 _) 1 _)
        have HA6_12 := hid ((HA6_11.out.far (j := 0) (Ne.symm HNE.out) (.int .i32 X)).far (j := 1) (Ne.symm HNE.out) (.int .i32 Y))
        have HK12 := hid ((HK11.out.other HA5_11.out (by decide) (by decide) (by decide) HG5.out (Nat.le_trans hnw HG5.out) 0 (.int .i32 X)).other (at_set HA5_11.out 0 (.int .i32 X)) (by decide) (by decide) (by decide) HG5.out (Nat.le_trans hnw HG5.out) 1 (.int .i32 Y))
        have HB12 := hid ((HB11.out.setCell (p := ⟨B5, 0, none⟩) HG5.out (.int .i32 X)).setCell (p := ⟨B5, 1, none⟩) HG5.out (.int .i32 Y))
        refine hKK.out _ _ HB12.out (fun hHeld => ?_)
        clear hKK K k0 k1 kf
        (try simp only [Act.put, pu1, pu2, pu3])
        generalize World.setCell (World.setCell u11 _ _) _ _ = u12 at HK12 HB12 HA5_12 HA6_12 hHeld ⊢
        refine wpAnyH_ready (rs := [19]) (by kernel_rfl) (by simp) ?_
        refine AllReadyH.cons (i := 19) rfl (fun K hKK => ?_) AllReadyH.nil
        obtain ⟨k0, k1⟩ := HA6_12.out.two
        have kf := HA6_12.out.frozen
        go_simp
        have HA6_13 : Hid (At ((u12.setCell ⟨B6, 0, none⟩ (.int .i32 U)).setCell ⟨B6, 1, none⟩ (.int .i32 V')) B6 #[.int .i32 U, .int .i32 V'] 27) := hid (at_set (at_set HA6_12.out 0 _) 1 _)
        have HA5_13 := hid ((HA5_12.out.far (j := 0) HNE.out (.int .i32 U)).far (j := 1) HNE.out (.int .i32 V'))
        have HK13 := hid ((HK12.out.other HA6_12.out (by decide) (by decide) (by decide) HG6.out (Nat.le_trans hnw HG6.out) 0 (.int .i32 U)).other (at_set HA6_12.out 0 (.int .i32 U)) (by decide) (by decide) (by decide) HG6.out (Nat.le_trans hnw HG6.out) 1 (.int .i32 V'))
        have HB13 := hid ((HB12.out.setCell (p := ⟨B6, 0, none⟩) HG6.out (.int .i32 U)).setCell (p := ⟨B6, 1, none⟩) HG6.out (.int .i32 V'))
        refine hKK.out _ _ HB13.out (fun hHeld => ?_)
        clear hKK K k0 k1 kf
        (try simp only [Act.put, pu1, pu2, pu3])
        generalize World.setCell (World.setCell u12 _ _) _ _ = u13 at HK13 HB13 HA5_13 HA6_13 hHeld ⊢
        refine wpAnyH_ready (rs := [20]) (by kernel_rfl) (by simp) ?_
        refine AllReadyH.cons (i := 20) rfl (fun K hKK => ?_) AllReadyH.nil
        go_simp
        have HK14 := HK13
        have HB14 := HB13
        have HA6_14 := HA6_13
        have HA5_14 := HA5_13
        refine hKK.out _ _ HB14.out (fun hHeld => ?_)
        clear hKK K
        (try simp only [Act.put, pu1, pu2, pu3])
        obtain ⟨u14, hu14⟩ : ∃ z, z = u13 := ⟨_, rfl⟩
        rw [← hu14] at HK14 HB14 HA5_14 HA6_14 hHeld ⊢
        clear hu14
        refine wpAnyH_ready (rs := [21]) (by kernel_rfl) (by simp) ?_
        refine AllReadyH.cons (i := 21) rfl (fun K hKK => ?_) AllReadyH.nil
        go_simp
        have HK15 := HK14
        have HB15 := HB14
        have HA6_15 := HA6_14
        have HA5_15 := HA5_14
        refine hKK.out _ _ HB15.out (fun hHeld => ?_)
        clear hKK K
        (try simp only [Act.put, pu1, pu2, pu3])
        obtain ⟨u15, hu15⟩ : ∃ z, z = u14 := ⟨_, rfl⟩
        rw [← hu15] at HK15 HB15 HA5_15 HA6_15 hHeld ⊢
        clear hu15
        refine wpAnyH_done (by kernel_rfl) ?_ _
        refine NoPanic.normal ?_
        go_wp2_with fail
        go_meet
        case rel => exact ⟨rfl, B5, B6, rfl, rfl, rfl, HK15.out, HA5_15.out, HA6_15.out⟩
      refine AllReadyH.cons (i := 16) rfl (fun K hKK => ?_) ?_
      · go_simp
        have HA5_16 := hid (At.new u2 #[.int .i32 0, .int .i32 0] 27)
        have HK16 := hid (HK2.out.below (Ev.bal (Ev.br u2) (.cells #[.int .i32 0, .int .i32 0] 27)))
        have HB16 := hid (Ev.bal HB2.out (.cells #[.int .i32 0, .int .i32 0] 27))
        have HG5 := hid (show w.heap.size ≤ u2.heap.size from HB2.out.size)
        refine hKK.out _ _ HB16.out (fun hHeld => ?_)
        clear hKK K
        (try simp only [Act.put, pu1, pu2, pu3])
        generalize World.alloc u2 _ = u16 at HK16 HB16 HA5_16 hHeld ⊢
        generalize u2.heap.size = B5 at HA5_16 HG5 ⊢
        refine wpAnyH_ready (rs := [10, 17]) (by kernel_rfl) (by simp) ?_
        refine AllReadyH.cons (i := 10) rfl (fun K hKK => ?_) ?_
        · go_simp
          (refine (HMv _).mono ?_)
          rintro e u17 ⟨rfl, g17⟩
          have HK17 := hid (HK16.out.below g17)
          have HB17 := hid (Ev.bt HB16.out g17)
          have HA5_17 := hid (HA5_16.out.below g17)
          dsimp only
          refine hKK.out _ _ HB17.out (fun hHeld => ?_)
          clear hKK K
          (try simp only [Act.put, pu1, pu2, pu3])
          (refine tk 11 15 ?_ rfl rfl (by kernel_rfl) (by rfl) ?_ (by assumption) ?_)
          rotate_left
          · (intro W hSW; go_simp; (try with_reducible rfl))
          simp only [Act.put, pu1, pu2, pu3]
          (refine tk 12 27 ?_ rfl rfl (by kernel_rfl) (by rfl) ?_ (by assumption) ?_)
          rotate_left
          · (intro W hSW; go_simp; (try with_reducible rfl))
          simp only [Act.put, pu1, pu2, pu3]
          (refine tk 13 28 ?_ rfl rfl (by kernel_rfl) (by rfl) ?_ (by assumption) ?_)
          rotate_left
          · (intro W hSW; go_simp; (try with_reducible rfl))
          simp only [Act.put, pu1, pu2, pu3]
          (refine tk 14 29 ?_ rfl rfl (by kernel_rfl) (by rfl) ?_ (by assumption) ?_)
          rotate_left
          · (intro W hSW; go_simp; (try with_reducible rfl))
          simp only [Act.put, pu1, pu2, pu3]
          (refine tk 15 30 ?_ rfl rfl (by kernel_rfl) (by rfl) ?_ (by assumption) ?_)
          rotate_left
          · (intro W hSW; go_simp; (try with_reducible rfl))
          simp only [Act.put, pu1, pu2, pu3]
          refine wpAnyH_ready (rs := [17]) (by kernel_rfl) (by simp) ?_
          refine AllReadyH.cons (i := 17) rfl (fun K hKK => ?_) AllReadyH.nil
          go_simp
          have HA6_18 := hid (At.new u17 #[.int .i32 0, .int .i32 0] 27)
          have HK18 := hid (HK17.out.below (Ev.bal (Ev.br u17) (.cells #[.int .i32 0, .int .i32 0] 27)))
          have HB18 := hid (Ev.bal HB17.out (.cells #[.int .i32 0, .int .i32 0] 27))
          have HG6 := hid (show w.heap.size ≤ u17.heap.size from HB17.out.size)
          have HA5_18 := hid (HA5_17.out.more (.cells #[.int .i32 0, .int .i32 0] 27))
          have HN := hid (Nat.ne_of_lt HA5_17.out.lt)
          refine hKK.out _ _ HB18.out (fun hHeld => ?_)
          clear hKK K
          (try simp only [Act.put, pu1, pu2, pu3])
          generalize World.alloc u17 _ = u18 at HK18 HB18 HA6_18 HA5_18 hHeld ⊢
          generalize u17.heap.size = B6 at HA6_18 HG6 HN ⊢
          have HNE := hid (show B5 ≠ B6 from HN.out)
          refine wpAnyH_ready (rs := [18]) (by kernel_rfl) (by simp) ?_
          refine AllReadyH.cons (i := 18) rfl (fun K hKK => ?_) AllReadyH.nil
          obtain ⟨k0, k1⟩ := HA5_18.out.two
          have kf := HA5_18.out.frozen
          go_simp
          have HA5_19 : Hid (At ((u18.setCell ⟨B5, 0, none⟩ (.int .i32 X)).setCell ⟨B5, 1, none⟩ (.int .i32 Y)) B5 #[.int .i32 X, .int .i32 Y] 27) := hid (at_set (at_set HA5_18.out 0 _) 1 _)
          have HA6_19 := hid ((HA6_18.out.far (j := 0) (Ne.symm HNE.out) (.int .i32 X)).far (j := 1) (Ne.symm HNE.out) (.int .i32 Y))
          have HK19 := hid ((HK18.out.other HA5_18.out (by decide) (by decide) (by decide) HG5.out (Nat.le_trans hnw HG5.out) 0 (.int .i32 X)).other (at_set HA5_18.out 0 (.int .i32 X)) (by decide) (by decide) (by decide) HG5.out (Nat.le_trans hnw HG5.out) 1 (.int .i32 Y))
          have HB19 := hid ((HB18.out.setCell (p := ⟨B5, 0, none⟩) HG5.out (.int .i32 X)).setCell (p := ⟨B5, 1, none⟩) HG5.out (.int .i32 Y))
          refine hKK.out _ _ HB19.out (fun hHeld => ?_)
          clear hKK K k0 k1 kf
          (try simp only [Act.put, pu1, pu2, pu3])
          generalize World.setCell (World.setCell u18 _ _) _ _ = u19 at HK19 HB19 HA5_19 HA6_19 hHeld ⊢
          refine wpAnyH_ready (rs := [19]) (by kernel_rfl) (by simp) ?_
          refine AllReadyH.cons (i := 19) rfl (fun K hKK => ?_) AllReadyH.nil
          obtain ⟨k0, k1⟩ := HA6_19.out.two
          have kf := HA6_19.out.frozen
          go_simp
          have HA6_20 : Hid (At ((u19.setCell ⟨B6, 0, none⟩ (.int .i32 U)).setCell ⟨B6, 1, none⟩ (.int .i32 V')) B6 #[.int .i32 U, .int .i32 V'] 27) := hid (at_set (at_set HA6_19.out 0 _) 1 _)
          have HA5_20 := hid ((HA5_19.out.far (j := 0) HNE.out (.int .i32 U)).far (j := 1) HNE.out (.int .i32 V'))
          have HK20 := hid ((HK19.out.other HA6_19.out (by decide) (by decide) (by decide) HG6.out (Nat.le_trans hnw HG6.out) 0 (.int .i32 U)).other (at_set HA6_19.out 0 (.int .i32 U)) (by decide) (by decide) (by decide) HG6.out (Nat.le_trans hnw HG6.out) 1 (.int .i32 V'))
          have HB20 := hid ((HB19.out.setCell (p := ⟨B6, 0, none⟩) HG6.out (.int .i32 U)).setCell (p := ⟨B6, 1, none⟩) HG6.out (.int .i32 V'))
          refine hKK.out _ _ HB20.out (fun hHeld => ?_)
          clear hKK K k0 k1 kf
          (try simp only [Act.put, pu1, pu2, pu3])
          generalize World.setCell (World.setCell u19 _ _) _ _ = u20 at HK20 HB20 HA5_20 HA6_20 hHeld ⊢
          refine wpAnyH_ready (rs := [20]) (by kernel_rfl) (by simp) ?_
          refine AllReadyH.cons (i := 20) rfl (fun K hKK => ?_) AllReadyH.nil
          go_simp
          have HK21 := HK20
          have HB21 := HB20
          have HA5_21 := HA5_20
          have HA6_21 := HA6_20
          refine hKK.out _ _ HB21.out (fun hHeld => ?_)
          clear hKK K
          (try simp only [Act.put, pu1, pu2, pu3])
          obtain ⟨u21, hu21⟩ : ∃ z, z = u20 := ⟨_, rfl⟩
          rw [← hu21] at HK21 HB21 HA5_21 HA6_21 hHeld ⊢
          clear hu21
          refine wpAnyH_ready (rs := [21]) (by kernel_rfl) (by simp) ?_
          refine AllReadyH.cons (i := 21) rfl (fun K hKK => ?_) AllReadyH.nil
          go_simp
          have HK22 := HK21
          have HB22 := HB21
          have HA5_22 := HA5_21
          have HA6_22 := HA6_21
          refine hKK.out _ _ HB22.out (fun hHeld => ?_)
          clear hKK K
          (try simp only [Act.put, pu1, pu2, pu3])
          obtain ⟨u22, hu22⟩ : ∃ z, z = u21 := ⟨_, rfl⟩
          rw [← hu22] at HK22 HB22 HA5_22 HA6_22 hHeld ⊢
          clear hu22
          refine wpAnyH_done (by kernel_rfl) ?_ _
          refine NoPanic.normal ?_
          go_wp2_with fail
          go_meet
          case rel => exact ⟨rfl, B5, B6, rfl, rfl, rfl, HK22.out, HA5_22.out, HA6_22.out⟩
        refine AllReadyH.cons (i := 17) rfl (fun K hKK => ?_) AllReadyH.nil
        go_simp
        have HA6_23 := hid (At.new u16 #[.int .i32 0, .int .i32 0] 27)
        have HK23 := hid (HK16.out.below (Ev.bal (Ev.br u16) (.cells #[.int .i32 0, .int .i32 0] 27)))
        have HB23 := hid (Ev.bal HB16.out (.cells #[.int .i32 0, .int .i32 0] 27))
        have HG6 := hid (show w.heap.size ≤ u16.heap.size from HB16.out.size)
        have HA5_23 := hid (HA5_16.out.more (.cells #[.int .i32 0, .int .i32 0] 27))
        have HN := hid (Nat.ne_of_lt HA5_16.out.lt)
        refine hKK.out _ _ HB23.out (fun hHeld => ?_)
        clear hKK K
        (try simp only [Act.put, pu1, pu2, pu3])
        generalize World.alloc u16 _ = u23 at HK23 HB23 HA6_23 HA5_23 hHeld ⊢
        generalize u16.heap.size = B6 at HA6_23 HG6 HN ⊢
        have HNE := hid (show B5 ≠ B6 from HN.out)
        refine wpAnyH_ready (rs := [10]) (by kernel_rfl) (by simp) ?_
        refine AllReadyH.cons (i := 10) rfl (fun K hKK => ?_) AllReadyH.nil
        go_simp
        (refine (HMv _).mono ?_)
        rintro e u24 ⟨rfl, g24⟩
        have HK24 := hid (HK23.out.below g24)
        have HB24 := hid (Ev.bt HB23.out g24)
        have HA5_24 := hid (HA5_23.out.below g24)
        have HA6_24 := hid (HA6_23.out.below g24)
        dsimp only
        refine hKK.out _ _ HB24.out (fun hHeld => ?_)
        clear hKK K
        (try simp only [Act.put, pu1, pu2, pu3])
        (refine tk 11 15 ?_ rfl rfl (by kernel_rfl) (by rfl) ?_ (by assumption) ?_)
        rotate_left
        · (intro W hSW; go_simp; (try with_reducible rfl))
        simp only [Act.put, pu1, pu2, pu3]
        (refine tk 12 27 ?_ rfl rfl (by kernel_rfl) (by rfl) ?_ (by assumption) ?_)
        rotate_left
        · (intro W hSW; go_simp; (try with_reducible rfl))
        simp only [Act.put, pu1, pu2, pu3]
        (refine tk 13 28 ?_ rfl rfl (by kernel_rfl) (by rfl) ?_ (by assumption) ?_)
        rotate_left
        · (intro W hSW; go_simp; (try with_reducible rfl))
        simp only [Act.put, pu1, pu2, pu3]
        (refine tk 14 29 ?_ rfl rfl (by kernel_rfl) (by rfl) ?_ (by assumption) ?_)
        rotate_left
        · (intro W hSW; go_simp; (try with_reducible rfl))
        simp only [Act.put, pu1, pu2, pu3]
        (refine tk 15 30 ?_ rfl rfl (by kernel_rfl) (by rfl) ?_ (by assumption) ?_)
        rotate_left
        · (intro W hSW; go_simp; (try with_reducible rfl))
        simp only [Act.put, pu1, pu2, pu3]
        refine wpAnyH_ready (rs := [18]) (by kernel_rfl) (by simp) ?_
        refine AllReadyH.cons (i := 18) rfl (fun K hKK => ?_) AllReadyH.nil
        obtain ⟨k0, k1⟩ := HA5_24.out.two
        have kf := HA5_24.out.frozen
        go_simp
        have HA5_25 : Hid (At ((u24.setCell ⟨B5, 0, none⟩ (.int .i32 X)).setCell ⟨B5, 1, none⟩ (.int .i32 Y)) B5 #[.int .i32 X, .int .i32 Y] 27) := hid (at_set (at_set HA5_24.out 0 _) 1 _)
        have HA6_25 := hid ((HA6_24.out.far (j := 0) (Ne.symm HNE.out) (.int .i32 X)).far (j := 1) (Ne.symm HNE.out) (.int .i32 Y))
        have HK25 := hid ((HK24.out.other HA5_24.out (by decide) (by decide) (by decide) HG5.out (Nat.le_trans hnw HG5.out) 0 (.int .i32 X)).other (at_set HA5_24.out 0 (.int .i32 X)) (by decide) (by decide) (by decide) HG5.out (Nat.le_trans hnw HG5.out) 1 (.int .i32 Y))
        have HB25 := hid ((HB24.out.setCell (p := ⟨B5, 0, none⟩) HG5.out (.int .i32 X)).setCell (p := ⟨B5, 1, none⟩) HG5.out (.int .i32 Y))
        refine hKK.out _ _ HB25.out (fun hHeld => ?_)
        clear hKK K k0 k1 kf
        (try simp only [Act.put, pu1, pu2, pu3])
        generalize World.setCell (World.setCell u24 _ _) _ _ = u25 at HK25 HB25 HA5_25 HA6_25 hHeld ⊢
        refine wpAnyH_ready (rs := [19]) (by kernel_rfl) (by simp) ?_
        refine AllReadyH.cons (i := 19) rfl (fun K hKK => ?_) AllReadyH.nil
        obtain ⟨k0, k1⟩ := HA6_25.out.two
        have kf := HA6_25.out.frozen
        go_simp
        have HA6_26 : Hid (At ((u25.setCell ⟨B6, 0, none⟩ (.int .i32 U)).setCell ⟨B6, 1, none⟩ (.int .i32 V')) B6 #[.int .i32 U, .int .i32 V'] 27) := hid (at_set (at_set HA6_25.out 0 _) 1 _)
        have HA5_26 := hid ((HA5_25.out.far (j := 0) HNE.out (.int .i32 U)).far (j := 1) HNE.out (.int .i32 V'))
        have HK26 := hid ((HK25.out.other HA6_25.out (by decide) (by decide) (by decide) HG6.out (Nat.le_trans hnw HG6.out) 0 (.int .i32 U)).other (at_set HA6_25.out 0 (.int .i32 U)) (by decide) (by decide) (by decide) HG6.out (Nat.le_trans hnw HG6.out) 1 (.int .i32 V'))
        have HB26 := hid ((HB25.out.setCell (p := ⟨B6, 0, none⟩) HG6.out (.int .i32 U)).setCell (p := ⟨B6, 1, none⟩) HG6.out (.int .i32 V'))
        refine hKK.out _ _ HB26.out (fun hHeld => ?_)
        clear hKK K k0 k1 kf
        (try simp only [Act.put, pu1, pu2, pu3])
        generalize World.setCell (World.setCell u25 _ _) _ _ = u26 at HK26 HB26 HA5_26 HA6_26 hHeld ⊢
        refine wpAnyH_ready (rs := [20]) (by kernel_rfl) (by simp) ?_
        refine AllReadyH.cons (i := 20) rfl (fun K hKK => ?_) AllReadyH.nil
        go_simp
        have HK27 := HK26
        have HB27 := HB26
        have HA5_27 := HA5_26
        have HA6_27 := HA6_26
        refine hKK.out _ _ HB27.out (fun hHeld => ?_)
        clear hKK K
        (try simp only [Act.put, pu1, pu2, pu3])
        obtain ⟨u27, hu27⟩ : ∃ z, z = u26 := ⟨_, rfl⟩
        rw [← hu27] at HK27 HB27 HA5_27 HA6_27 hHeld ⊢
        clear hu27
        refine wpAnyH_ready (rs := [21]) (by kernel_rfl) (by simp) ?_
        refine AllReadyH.cons (i := 21) rfl (fun K hKK => ?_) AllReadyH.nil
        go_simp
        have HK28 := HK27
        have HB28 := HB27
        have HA5_28 := HA5_27
        have HA6_28 := HA6_27
        refine hKK.out _ _ HB28.out (fun hHeld => ?_)
        clear hKK K
        (try simp only [Act.put, pu1, pu2, pu3])
        obtain ⟨u28, hu28⟩ : ∃ z, z = u27 := ⟨_, rfl⟩
        rw [← hu28] at HK28 HB28 HA5_28 HA6_28 hHeld ⊢
        clear hu28
        refine wpAnyH_done (by kernel_rfl) ?_ _
        refine NoPanic.normal ?_
        go_wp2_with fail
        go_meet
        case rel => exact ⟨rfl, B5, B6, rfl, rfl, rfl, HK28.out, HA5_28.out, HA6_28.out⟩
      refine AllReadyH.cons (i := 17) rfl (fun K hKK => ?_) AllReadyH.nil
      go_simp
      have HA6_29 := hid (At.new u2 #[.int .i32 0, .int .i32 0] 27)
      have HK29 := hid (HK2.out.below (Ev.bal (Ev.br u2) (.cells #[.int .i32 0, .int .i32 0] 27)))
      have HB29 := hid (Ev.bal HB2.out (.cells #[.int .i32 0, .int .i32 0] 27))
      have HG6 := hid (show w.heap.size ≤ u2.heap.size from HB2.out.size)
      refine hKK.out _ _ HB29.out (fun hHeld => ?_)
      clear hKK K
      (try simp only [Act.put, pu1, pu2, pu3])
      generalize World.alloc u2 _ = u29 at HK29 HB29 HA6_29 hHeld ⊢
      generalize u2.heap.size = B6 at HA6_29 HG6 ⊢
      refine wpAnyH_ready (rs := [10, 16]) (by kernel_rfl) (by simp) ?_
      refine AllReadyH.cons (i := 10) rfl (fun K hKK => ?_) ?_
      · go_simp
        (refine (HMv _).mono ?_)
        rintro e u30 ⟨rfl, g30⟩
        have HK30 := hid (HK29.out.below g30)
        have HB30 := hid (Ev.bt HB29.out g30)
        have HA6_30 := hid (HA6_29.out.below g30)
        dsimp only
        refine hKK.out _ _ HB30.out (fun hHeld => ?_)
        clear hKK K
        (try simp only [Act.put, pu1, pu2, pu3])
        (refine tk 11 15 ?_ rfl rfl (by kernel_rfl) (by rfl) ?_ (by assumption) ?_)
        rotate_left
        · (intro W hSW; go_simp; (try with_reducible rfl))
        simp only [Act.put, pu1, pu2, pu3]
        (refine tk 12 27 ?_ rfl rfl (by kernel_rfl) (by rfl) ?_ (by assumption) ?_)
        rotate_left
        · (intro W hSW; go_simp; (try with_reducible rfl))
        simp only [Act.put, pu1, pu2, pu3]
        (refine tk 13 28 ?_ rfl rfl (by kernel_rfl) (by rfl) ?_ (by assumption) ?_)
        rotate_left
        · (intro W hSW; go_simp; (try with_reducible rfl))
        simp only [Act.put, pu1, pu2, pu3]
        (refine tk 14 29 ?_ rfl rfl (by kernel_rfl) (by rfl) ?_ (by assumption) ?_)
        rotate_left
        · (intro W hSW; go_simp; (try with_reducible rfl))
        simp only [Act.put, pu1, pu2, pu3]
        (refine tk 15 30 ?_ rfl rfl (by kernel_rfl) (by rfl) ?_ (by assumption) ?_)
        rotate_left
        · (intro W hSW; go_simp; (try with_reducible rfl))
        simp only [Act.put, pu1, pu2, pu3]
        refine wpAnyH_ready (rs := [16]) (by kernel_rfl) (by simp) ?_
        refine AllReadyH.cons (i := 16) rfl (fun K hKK => ?_) AllReadyH.nil
        go_simp
        have HA5_31 := hid (At.new u30 #[.int .i32 0, .int .i32 0] 27)
        have HK31 := hid (HK30.out.below (Ev.bal (Ev.br u30) (.cells #[.int .i32 0, .int .i32 0] 27)))
        have HB31 := hid (Ev.bal HB30.out (.cells #[.int .i32 0, .int .i32 0] 27))
        have HG5 := hid (show w.heap.size ≤ u30.heap.size from HB30.out.size)
        have HA6_31 := hid (HA6_30.out.more (.cells #[.int .i32 0, .int .i32 0] 27))
        have HN := hid (Nat.ne_of_lt HA6_30.out.lt)
        refine hKK.out _ _ HB31.out (fun hHeld => ?_)
        clear hKK K
        (try simp only [Act.put, pu1, pu2, pu3])
        generalize World.alloc u30 _ = u31 at HK31 HB31 HA5_31 HA6_31 hHeld ⊢
        generalize u30.heap.size = B5 at HA5_31 HG5 HN ⊢
        have HNE := hid (show B5 ≠ B6 from Ne.symm HN.out)
        refine wpAnyH_ready (rs := [18]) (by kernel_rfl) (by simp) ?_
        refine AllReadyH.cons (i := 18) rfl (fun K hKK => ?_) AllReadyH.nil
        obtain ⟨k0, k1⟩ := HA5_31.out.two
        have kf := HA5_31.out.frozen
        go_simp
        have HA5_32 : Hid (At ((u31.setCell ⟨B5, 0, none⟩ (.int .i32 X)).setCell ⟨B5, 1, none⟩ (.int .i32 Y)) B5 #[.int .i32 X, .int .i32 Y] 27) := hid (at_set (at_set HA5_31.out 0 _) 1 _)
        have HA6_32 := hid ((HA6_31.out.far (j := 0) (Ne.symm HNE.out) (.int .i32 X)).far (j := 1) (Ne.symm HNE.out) (.int .i32 Y))
        have HK32 := hid ((HK31.out.other HA5_31.out (by decide) (by decide) (by decide) HG5.out (Nat.le_trans hnw HG5.out) 0 (.int .i32 X)).other (at_set HA5_31.out 0 (.int .i32 X)) (by decide) (by decide) (by decide) HG5.out (Nat.le_trans hnw HG5.out) 1 (.int .i32 Y))
        have HB32 := hid ((HB31.out.setCell (p := ⟨B5, 0, none⟩) HG5.out (.int .i32 X)).setCell (p := ⟨B5, 1, none⟩) HG5.out (.int .i32 Y))
        refine hKK.out _ _ HB32.out (fun hHeld => ?_)
        clear hKK K k0 k1 kf
        (try simp only [Act.put, pu1, pu2, pu3])
        generalize World.setCell (World.setCell u31 _ _) _ _ = u32 at HK32 HB32 HA5_32 HA6_32 hHeld ⊢
        refine wpAnyH_ready (rs := [19]) (by kernel_rfl) (by simp) ?_
        refine AllReadyH.cons (i := 19) rfl (fun K hKK => ?_) AllReadyH.nil
        obtain ⟨k0, k1⟩ := HA6_32.out.two
        have kf := HA6_32.out.frozen
        go_simp
        have HA6_33 : Hid (At ((u32.setCell ⟨B6, 0, none⟩ (.int .i32 U)).setCell ⟨B6, 1, none⟩ (.int .i32 V')) B6 #[.int .i32 U, .int .i32 V'] 27) := hid (at_set (at_set HA6_32.out 0 _) 1 _)
        have HA5_33 := hid ((HA5_32.out.far (j := 0) HNE.out (.int .i32 U)).far (j := 1) HNE.out (.int .i32 V'))
        have HK33 := hid ((HK32.out.other HA6_32.out (by decide) (by decide) (by decide) HG6.out (Nat.le_trans hnw HG6.out) 0 (.int .i32 U)).other (at_set HA6_32.out 0 (.int .i32 U)) (by decide) (by decide) (by decide) HG6.out (Nat.le_trans hnw HG6.out) 1 (.int .i32 V'))
        have HB33 := hid ((HB32.out.setCell (p := ⟨B6, 0, none⟩) HG6.out (.int .i32 U)).setCell (p := ⟨B6, 1, none⟩) HG6.out (.int .i32 V'))
        refine hKK.out _ _ HB33.out (fun hHeld => ?_)
        clear hKK K k0 k1 kf
        (try simp only [Act.put, pu1, pu2, pu3])
        generalize World.setCell (World.setCell u32 _ _) _ _ = u33 at HK33 HB33 HA5_33 HA6_33 hHeld ⊢
        refine wpAnyH_ready (rs := [20]) (by kernel_rfl) (by simp) ?_
        refine AllReadyH.cons (i := 20) rfl (fun K hKK => ?_) AllReadyH.nil
        go_simp
        have HK34 := HK33
        have HB34 := HB33
        have HA6_34 := HA6_33
        have HA5_34 := HA5_33
        refine hKK.out _ _ HB34.out (fun hHeld => ?_)
        clear hKK K
        (try simp only [Act.put, pu1, pu2, pu3])
        obtain ⟨u34, hu34⟩ : ∃ z, z = u33 := ⟨_, rfl⟩
        rw [← hu34] at HK34 HB34 HA5_34 HA6_34 hHeld ⊢
        clear hu34
        refine wpAnyH_ready (rs := [21]) (by kernel_rfl) (by simp) ?_
        refine AllReadyH.cons (i := 21) rfl (fun K hKK => ?_) AllReadyH.nil
        go_simp
        have HK35 := HK34
        have HB35 := HB34
        have HA6_35 := HA6_34
        have HA5_35 := HA5_34
        refine hKK.out _ _ HB35.out (fun hHeld => ?_)
        clear hKK K
        (try simp only [Act.put, pu1, pu2, pu3])
        obtain ⟨u35, hu35⟩ : ∃ z, z = u34 := ⟨_, rfl⟩
        rw [← hu35] at HK35 HB35 HA5_35 HA6_35 hHeld ⊢
        clear hu35
        refine wpAnyH_done (by kernel_rfl) ?_ _
        refine NoPanic.normal ?_
        go_wp2_with fail
        go_meet
        case rel => exact ⟨rfl, B5, B6, rfl, rfl, rfl, HK35.out, HA5_35.out, HA6_35.out⟩
      refine AllReadyH.cons (i := 16) rfl (fun K hKK => ?_) AllReadyH.nil
      go_simp
      have HA5_36 := hid (At.new u29 #[.int .i32 0, .int .i32 0] 27)
      have HK36 := hid (HK29.out.below (Ev.bal (Ev.br u29) (.cells #[.int .i32 0, .int .i32 0] 27)))
      have HB36 := hid (Ev.bal HB29.out (.cells #[.int .i32 0, .int .i32 0] 27))
      have HG5 := hid (show w.heap.size ≤ u29.heap.size from HB29.out.size)
      have HA6_36 := hid (HA6_29.out.more (.cells #[.int .i32 0, .int .i32 0] 27))
      have HN := hid (Nat.ne_of_lt HA6_29.out.lt)
      refine hKK.out _ _ HB36.out (fun hHeld => ?_)
      clear hKK K
      (try simp only [Act.put, pu1, pu2, pu3])
      generalize World.alloc u29 _ = u36 at HK36 HB36 HA5_36 HA6_36 hHeld ⊢
      generalize u29.heap.size = B5 at HA5_36 HG5 HN ⊢
      have HNE := hid (show B5 ≠ B6 from Ne.symm HN.out)
      refine wpAnyH_ready (rs := [10]) (by kernel_rfl) (by simp) ?_
      refine AllReadyH.cons (i := 10) rfl (fun K hKK => ?_) AllReadyH.nil
      go_simp
      (refine (HMv _).mono ?_)
      rintro e u37 ⟨rfl, g37⟩
      have HK37 := hid (HK36.out.below g37)
      have HB37 := hid (Ev.bt HB36.out g37)
      have HA6_37 := hid (HA6_36.out.below g37)
      have HA5_37 := hid (HA5_36.out.below g37)
      dsimp only
      refine hKK.out _ _ HB37.out (fun hHeld => ?_)
      clear hKK K
      (try simp only [Act.put, pu1, pu2, pu3])
      (refine tk 11 15 ?_ rfl rfl (by kernel_rfl) (by rfl) ?_ (by assumption) ?_)
      rotate_left
      · (intro W hSW; go_simp; (try with_reducible rfl))
      simp only [Act.put, pu1, pu2, pu3]
      (refine tk 12 27 ?_ rfl rfl (by kernel_rfl) (by rfl) ?_ (by assumption) ?_)
      rotate_left
      · (intro W hSW; go_simp; (try with_reducible rfl))
      simp only [Act.put, pu1, pu2, pu3]
      (refine tk 13 28 ?_ rfl rfl (by kernel_rfl) (by rfl) ?_ (by assumption) ?_)
      rotate_left
      · (intro W hSW; go_simp; (try with_reducible rfl))
      simp only [Act.put, pu1, pu2, pu3]
      (refine tk 14 29 ?_ rfl rfl (by kernel_rfl) (by rfl) ?_ (by assumption) ?_)
      rotate_left
      · (intro W hSW; go_simp; (try with_reducible rfl))
      simp only [Act.put, pu1, pu2, pu3]
      (refine tk 15 30 ?_ rfl rfl (by kernel_rfl) (by rfl) ?_ (by assumption) ?_)
      rotate_left
      · (intro W hSW; go_simp; (try with_reducible rfl))
      simp only [Act.put, pu1, pu2, pu3]
      refine wpAnyH_ready (rs := [18]) (by kernel_rfl) (by simp) ?_
      refine AllReadyH.cons (i := 18) rfl (fun K hKK => ?_) AllReadyH.nil
      obtain ⟨k0, k1⟩ := HA5_37.out.two
      have kf := HA5_37.out.frozen
      go_simp
      have HA5_38 : Hid (At ((u37.setCell ⟨B5, 0, none⟩ (.int .i32 X)).setCell ⟨B5, 1, none⟩ (.int .i32 Y)) B5 #[.int .i32 X, .int .i32 Y] 27) := hid (at_set (at_set HA5_37.out 0 _) 1 _)
      have HA6_38 := hid ((HA6_37.out.far (j := 0) (Ne.symm HNE.out) (.int .i32 X)).far (j := 1) (Ne.symm HNE.out) (.int .i32 Y))
      have HK38 := hid ((HK37.out.other HA5_37.out (by decide) (by decide) (by decide) HG5.out (Nat.le_trans hnw HG5.out) 0 (.int .i32 X)).other (at_set HA5_37.out 0 (.int .i32 X)) (by decide) (by decide) (by decide) HG5.out (Nat.le_trans hnw HG5.out) 1 (.int .i32 Y))
      have HB38 := hid ((HB37.out.setCell (p := ⟨B5, 0, none⟩) HG5.out (.int .i32 X)).setCell (p := ⟨B5, 1, none⟩) HG5.out (.int .i32 Y))
      refine hKK.out _ _ HB38.out (fun hHeld => ?_)
      clear hKK K k0 k1 kf
      (try simp only [Act.put, pu1, pu2, pu3])
      generalize World.setCell (World.setCell u37 _ _) _ _ = u38 at HK38 HB38 HA5_38 HA6_38 hHeld ⊢
      refine wpAnyH_ready (rs := [19]) (by kernel_rfl) (by simp) ?_
      refine AllReadyH.cons (i := 19) rfl (fun K hKK => ?_) AllReadyH.nil
      obtain ⟨k0, k1⟩ := HA6_38.out.two
      have kf := HA6_38.out.frozen
      go_simp
      have HA6_39 : Hid (At ((u38.setCell ⟨B6, 0, none⟩ (.int .i32 U)).setCell ⟨B6, 1, none⟩ (.int .i32 V')) B6 #[.int .i32 U, .int .i32 V'] 27) := hid (at_set (at_set HA6_38.out 0 _) 1 _)
      have HA5_39 := hid ((HA5_38.out.far (j := 0) HNE.out (.int .i32 U)).far (j := 1) HNE.out (.int .i32 V'))
      have HK39 := hid ((HK38.out.other HA6_38.out (by decide) (by decide) (by decide) HG6.out (Nat.le_trans hnw HG6.out) 0 (.int .i32 U)).other (at_set HA6_38.out 0 (.int .i32 U)) (by decide) (by decide) (by decide) HG6.out (Nat.le_trans hnw HG6.out) 1 (.int .i32 V'))
      have HB39 := hid ((HB38.out.setCell (p := ⟨B6, 0, none⟩) HG6.out (.int .i32 U)).setCell (p := ⟨B6, 1, none⟩) HG6.out (.int .i32 V'))
      refine hKK.out _ _ HB39.out (fun hHeld => ?_)
      clear hKK K k0 k1 kf
      (try simp only [Act.put, pu1, pu2, pu3])
      generalize World.setCell (World.setCell u38 _ _) _ _ = u39 at HK39 HB39 HA5_39 HA6_39 hHeld ⊢
      refine wpAnyH_ready (rs := [20]) (by kernel_rfl) (by simp) ?_
      refine AllReadyH.cons (i := 20) rfl (fun K hKK => ?_) AllReadyH.nil
      go_simp
      have HK40 := HK39
      have HB40 := HB39
      have HA6_40 := HA6_39
      have HA5_40 := HA5_39
      refine hKK.out _ _ HB40.out (fun hHeld => ?_)
      clear hKK K
      (try simp only [Act.put, pu1, pu2, pu3])
      obtain ⟨u40, hu40⟩ : ∃ z, z = u39 := ⟨_, rfl⟩
      rw [← hu40] at HK40 HB40 HA5_40 HA6_40 hHeld ⊢
      clear hu40
      refine wpAnyH_ready (rs := [21]) (by kernel_rfl) (by simp) ?_
      refine AllReadyH.cons (i := 21) rfl (fun K hKK => ?_) AllReadyH.nil
      go_simp
      have HK41 := HK40
      have HB41 := HB40
      have HA6_41 := HA6_40
      have HA5_41 := HA5_40
      refine hKK.out _ _ HB41.out (fun hHeld => ?_)
      clear hKK K
      (try simp only [Act.put, pu1, pu2, pu3])
      obtain ⟨u41, hu41⟩ : ∃ z, z = u40 := ⟨_, rfl⟩
      rw [← hu41] at HK41 HB41 HA5_41 HA6_41 hHeld ⊢
      clear hu41
      refine wpAnyH_done (by kernel_rfl) ?_ _
      refine NoPanic.normal ?_
      go_wp2_with fail
      go_meet
      case rel => exact ⟨rfl, B5, B6, rfl, rfl, rfl, HK41.out, HA5_41.out, HA6_41.out⟩
    refine AllReadyH.cons (i := 16) rfl (fun K hKK => ?_) ?_
    · go_simp
      have HA5_42 := hid (At.new u1 #[.int .i32 0, .int .i32 0] 27)
      have HK42 := hid (HK1.out.below (Ev.bal (Ev.br u1) (.cells #[.int .i32 0, .int .i32 0] 27)))
      have HB42 := hid (Ev.bal HB1.out (.cells #[.int .i32 0, .int .i32 0] 27))
      have HG5 := hid (show w.heap.size ≤ u1.heap.size from HB1.out.size)
      refine hKK.out _ _ HB42.out (fun hHeld => ?_)
      clear hKK K
      (try simp only [Act.put, pu1, pu2, pu3])
      generalize World.alloc u1 _ = u42 at HK42 HB42 HA5_42 hHeld ⊢
      generalize u1.heap.size = B5 at HA5_42 HG5 ⊢
      refine wpAnyH_ready (rs := [9, 17]) (by kernel_rfl) (by simp) ?_
      refine AllReadyH.cons (i := 9) rfl (fun K hKK => ?_) ?_
      · go_simp
        (refine (playersbox_c _).mono ?_)
        rintro e u43 ⟨rfl, g43⟩
        have HK43 := hid (HK42.out.below g43)
        have HB43 := hid (Ev.bt HB42.out g43)
        have HA5_43 := hid (HA5_42.out.below g43)
        dsimp only
        refine hKK.out _ _ HB43.out (fun hHeld => ?_)
        clear hKK K
        (try simp only [Act.put, pu1, pu2, pu3])
        refine wpAnyH_ready (rs := [10, 17]) (by kernel_rfl) (by simp) ?_
        refine AllReadyH.cons (i := 10) rfl (fun K hKK => ?_) ?_
        · go_simp
          (refine (HMv _).mono ?_)
          rintro e u44 ⟨rfl, g44⟩
          have HK44 := hid (HK43.out.below g44)
          have HB44 := hid (Ev.bt HB43.out g44)
          have HA5_44 := hid (HA5_43.out.below g44)
          dsimp only
          refine hKK.out _ _ HB44.out (fun hHeld => ?_)
          clear hKK K
          (try simp only [Act.put, pu1, pu2, pu3])
          (refine tk 11 15 ?_ rfl rfl (by kernel_rfl) (by rfl) ?_ (by assumption) ?_)
          rotate_left
          · (intro W hSW; go_simp; (try with_reducible rfl))
          simp only [Act.put, pu1, pu2, pu3]
          (refine tk 12 27 ?_ rfl rfl (by kernel_rfl) (by rfl) ?_ (by assumption) ?_)
          rotate_left
          · (intro W hSW; go_simp; (try with_reducible rfl))
          simp only [Act.put, pu1, pu2, pu3]
          (refine tk 13 28 ?_ rfl rfl (by kernel_rfl) (by rfl) ?_ (by assumption) ?_)
          rotate_left
          · (intro W hSW; go_simp; (try with_reducible rfl))
          simp only [Act.put, pu1, pu2, pu3]
          (refine tk 14 29 ?_ rfl rfl (by kernel_rfl) (by rfl) ?_ (by assumption) ?_)
          rotate_left
          · (intro W hSW; go_simp; (try with_reducible rfl))
          simp only [Act.put, pu1, pu2, pu3]
          (refine tk 15 30 ?_ rfl rfl (by kernel_rfl) (by rfl) ?_ (by assumption) ?_)
          rotate_left
          · (intro W hSW; go_simp; (try with_reducible rfl))
          simp only [Act.put, pu1, pu2, pu3]
          refine wpAnyH_ready (rs := [17]) (by kernel_rfl) (by simp) ?_
          refine AllReadyH.cons (i := 17) rfl (fun K hKK => ?_) AllReadyH.nil
          go_simp
          have HA6_45 := hid (At.new u44 #[.int .i32 0, .int .i32 0] 27)
          have HK45 := hid (HK44.out.below (Ev.bal (Ev.br u44) (.cells #[.int .i32 0, .int .i32 0] 27)))
          have HB45 := hid (Ev.bal HB44.out (.cells #[.int .i32 0, .int .i32 0] 27))
          have HG6 := hid (show w.heap.size ≤ u44.heap.size from HB44.out.size)
          have HA5_45 := hid (HA5_44.out.more (.cells #[.int .i32 0, .int .i32 0] 27))
          have HN := hid (Nat.ne_of_lt HA5_44.out.lt)
          refine hKK.out _ _ HB45.out (fun hHeld => ?_)
          clear hKK K
          (try simp only [Act.put, pu1, pu2, pu3])
          generalize World.alloc u44 _ = u45 at HK45 HB45 HA6_45 HA5_45 hHeld ⊢
          generalize u44.heap.size = B6 at HA6_45 HG6 HN ⊢
          have HNE := hid (show B5 ≠ B6 from HN.out)
          refine wpAnyH_ready (rs := [18]) (by kernel_rfl) (by simp) ?_
          refine AllReadyH.cons (i := 18) rfl (fun K hKK => ?_) AllReadyH.nil
          obtain ⟨k0, k1⟩ := HA5_45.out.two
          have kf := HA5_45.out.frozen
          go_simp
          have HA5_46 : Hid (At ((u45.setCell ⟨B5, 0, none⟩ (.int .i32 X)).setCell ⟨B5, 1, none⟩ (.int .i32 Y)) B5 #[.int .i32 X, .int .i32 Y] 27) := hid (at_set (at_set HA5_45.out 0 _) 1 _)
          have HA6_46 := hid ((HA6_45.out.far (j := 0) (Ne.symm HNE.out) (.int .i32 X)).far (j := 1) (Ne.symm HNE.out) (.int .i32 Y))
          have HK46 := hid ((HK45.out.other HA5_45.out (by decide) (by decide) (by decide) HG5.out (Nat.le_trans hnw HG5.out) 0 (.int .i32 X)).other (at_set HA5_45.out 0 (.int .i32 X)) (by decide) (by decide) (by decide) HG5.out (Nat.le_trans hnw HG5.out) 1 (.int .i32 Y))
          have HB46 := hid ((HB45.out.setCell (p := ⟨B5, 0, none⟩) HG5.out (.int .i32 X)).setCell (p := ⟨B5, 1, none⟩) HG5.out (.int .i32 Y))
          refine hKK.out _ _ HB46.out (fun hHeld => ?_)
          clear hKK K k0 k1 kf
          (try simp only [Act.put, pu1, pu2, pu3])
          generalize World.setCell (World.setCell u45 _ _) _ _ = u46 at HK46 HB46 HA5_46 HA6_46 hHeld ⊢
          refine wpAnyH_ready (rs := [19]) (by kernel_rfl) (by simp) ?_
          refine AllReadyH.cons (i := 19) rfl (fun K hKK => ?_) AllReadyH.nil
          obtain ⟨k0, k1⟩ := HA6_46.out.two
          have kf := HA6_46.out.frozen
          go_simp
          have HA6_47 : Hid (At ((u46.setCell ⟨B6, 0, none⟩ (.int .i32 U)).setCell ⟨B6, 1, none⟩ (.int .i32 V')) B6 #[.int .i32 U, .int .i32 V'] 27) := hid (at_set (at_set HA6_46.out 0 _) 1 _)
          have HA5_47 := hid ((HA5_46.out.far (j := 0) HNE.out (.int .i32 U)).far (j := 1) HNE.out (.int .i32 V'))
          have HK47 := hid ((HK46.out.other HA6_46.out (by decide) (by decide) (by decide) HG6.out (Nat.le_trans hnw HG6.out) 0 (.int .i32 U)).other (at_set HA6_46.out 0 (.int .i32 U)) (by decide) (by decide) (by decide) HG6.out (Nat.le_trans hnw HG6.out) 1 (.int .i32 V'))
          have HB47 := hid ((HB46.out.setCell (p := ⟨B6, 0, none⟩) HG6.out (.int .i32 U)).setCell (p := ⟨B6, 1, none⟩) HG6.out (.int .i32 V'))
          refine hKK.out _ _ HB47.out (fun hHeld => ?_)
          clear hKK K k0 k1 kf
          (try simp only [Act.put, pu1, pu2, pu3])
          generalize World.setCell (World.setCell u46 _ _) _ _ = u47 at HK47 HB47 HA5_47 HA6_47 hHeld ⊢
          refine wpAnyH_ready (rs := [20]) (by kernel_rfl) (by simp) ?_
          refine AllReadyH.cons (i := 20) rfl (fun K hKK => ?_) AllReadyH.nil
          go_simp
          have HK48 := HK47
          have HB48 := HB47
          have HA5_48 := HA5_47
          have HA6_48 := HA6_47
          refine hKK.out _ _ HB48.out (fun hHeld => ?_)
          clear hKK K
          (try simp only [Act.put, pu1, pu2, pu3])
          obtain ⟨u48, hu48⟩ : ∃ z, z = u47 := ⟨_, rfl⟩
          rw [← hu48] at HK48 HB48 HA5_48 HA6_48 hHeld ⊢
          clear hu48
          refine wpAnyH_ready (rs := [21]) (by kernel_rfl) (by simp) ?_
          refine AllReadyH.cons (i := 21) rfl (fun K hKK => ?_) AllReadyH.nil
          go_simp
          have HK49 := HK48
          have HB49 := HB48
          have HA5_49 := HA5_48
          have HA6_49 := HA6_48
          refine hKK.out _ _ HB49.out (fun hHeld => ?_)
          clear hKK K
          (try simp only [Act.put, pu1, pu2, pu3])
          obtain ⟨u49, hu49⟩ : ∃ z, z = u48 := ⟨_, rfl⟩
          rw [← hu49] at HK49 HB49 HA5_49 HA6_49 hHeld ⊢
          clear hu49
          refine wpAnyH_done (by kernel_rfl) ?_ _
          refine NoPanic.normal ?_
          go_wp2_with fail
          go_meet
          case rel => exact ⟨rfl, B5, B6, rfl, rfl, rfl, HK49.out, HA5_49.out, HA6_49.out⟩
        refine AllReadyH.cons (i := 17) rfl (fun K hKK => ?_) AllReadyH.nil
        go_simp
        have HA6_50 := hid (At.new u43 #[.int .i32 0, .int .i32 0] 27)
        have HK50 := hid (HK43.out.below (Ev.bal (Ev.br u43) (.cells #[.int .i32 0, .int .i32 0] 27)))
        have HB50 := hid (Ev.bal HB43.out (.cells #[.int .i32 0, .int .i32 0] 27))
        have HG6 := hid (show w.heap.size ≤ u43.heap.size from HB43.out.size)
        have HA5_50 := hid (HA5_43.out.more (.cells #[.int .i32 0, .int .i32 0] 27))
        have HN := hid (Nat.ne_of_lt HA5_43.out.lt)
        refine hKK.out _ _ HB50.out (fun hHeld => ?_)
        clear hKK K
        (try simp only [Act.put, pu1, pu2, pu3])
        generalize World.alloc u43 _ = u50 at HK50 HB50 HA6_50 HA5_50 hHeld ⊢
        generalize u43.heap.size = B6 at HA6_50 HG6 HN ⊢
        have HNE := hid (show B5 ≠ B6 from HN.out)
        refine wpAnyH_ready (rs := [10]) (by kernel_rfl) (by simp) ?_
        refine AllReadyH.cons (i := 10) rfl (fun K hKK => ?_) AllReadyH.nil
        go_simp
        (refine (HMv _).mono ?_)
        rintro e u51 ⟨rfl, g51⟩
        have HK51 := hid (HK50.out.below g51)
        have HB51 := hid (Ev.bt HB50.out g51)
        have HA5_51 := hid (HA5_50.out.below g51)
        have HA6_51 := hid (HA6_50.out.below g51)
        dsimp only
        refine hKK.out _ _ HB51.out (fun hHeld => ?_)
        clear hKK K
        (try simp only [Act.put, pu1, pu2, pu3])
        (refine tk 11 15 ?_ rfl rfl (by kernel_rfl) (by rfl) ?_ (by assumption) ?_)
        rotate_left
        · (intro W hSW; go_simp; (try with_reducible rfl))
        simp only [Act.put, pu1, pu2, pu3]
        (refine tk 12 27 ?_ rfl rfl (by kernel_rfl) (by rfl) ?_ (by assumption) ?_)
        rotate_left
        · (intro W hSW; go_simp; (try with_reducible rfl))
        simp only [Act.put, pu1, pu2, pu3]
        (refine tk 13 28 ?_ rfl rfl (by kernel_rfl) (by rfl) ?_ (by assumption) ?_)
        rotate_left
        · (intro W hSW; go_simp; (try with_reducible rfl))
        simp only [Act.put, pu1, pu2, pu3]
        (refine tk 14 29 ?_ rfl rfl (by kernel_rfl) (by rfl) ?_ (by assumption) ?_)
        rotate_left
        · (intro W hSW; go_simp; (try with_reducible rfl))
        simp only [Act.put, pu1, pu2, pu3]
        (refine tk 15 30 ?_ rfl rfl (by kernel_rfl) (by rfl) ?_ (by assumption) ?_)
        rotate_left
        · (intro W hSW; go_simp; (try with_reducible rfl))
        simp only [Act.put, pu1, pu2, pu3]
        refine wpAnyH_ready (rs := [18]) (by kernel_rfl) (by simp) ?_
        refine AllReadyH.cons (i := 18) rfl (fun K hKK => ?_) AllReadyH.nil
        obtain ⟨k0, k1⟩ := HA5_51.out.two
        have kf := HA5_51.out.frozen
        go_simp
        have HA5_52 : Hid (At ((u51.setCell ⟨B5, 0, none⟩ (.int .i32 X)).setCell ⟨B5, 1, none⟩ (.int .i32 Y)) B5 #[.int .i32 X, .int .i32 Y] 27) := hid (at_set (at_set HA5_51.out 0 _) 1 _)
        have HA6_52 := hid ((HA6_51.out.far (j := 0) (Ne.symm HNE.out) (.int .i32 X)).far (j := 1) (Ne.symm HNE.out) (.int .i32 Y))
        have HK52 := hid ((HK51.out.other HA5_51.out (by decide) (by decide) (by decide) HG5.out (Nat.le_trans hnw HG5.out) 0 (.int .i32 X)).other (at_set HA5_51.out 0 (.int .i32 X)) (by decide) (by decide) (by decide) HG5.out (Nat.le_trans hnw HG5.out) 1 (.int .i32 Y))
        have HB52 := hid ((HB51.out.setCell (p := ⟨B5, 0, none⟩) HG5.out (.int .i32 X)).setCell (p := ⟨B5, 1, none⟩) HG5.out (.int .i32 Y))
        refine hKK.out _ _ HB52.out (fun hHeld => ?_)
        clear hKK K k0 k1 kf
        (try simp only [Act.put, pu1, pu2, pu3])
        generalize World.setCell (World.setCell u51 _ _) _ _ = u52 at HK52 HB52 HA5_52 HA6_52 hHeld ⊢
        refine wpAnyH_ready (rs := [19]) (by kernel_rfl) (by simp) ?_
        refine AllReadyH.cons (i := 19) rfl (fun K hKK => ?_) AllReadyH.nil
        obtain ⟨k0, k1⟩ := HA6_52.out.two
        have kf := HA6_52.out.frozen
        go_simp
        have HA6_53 : Hid (At ((u52.setCell ⟨B6, 0, none⟩ (.int .i32 U)).setCell ⟨B6, 1, none⟩ (.int .i32 V')) B6 #[.int .i32 U, .int .i32 V'] 27) := hid (at_set (at_set HA6_52.out 0 _) 1 _)
        have HA5_53 := hid ((HA5_52.out.far (j := 0) HNE.out (.int .i32 U)).far (j := 1) HNE.out (.int .i32 V'))
        have HK53 := hid ((HK52.out.other HA6_52.out (by decide) (by decide) (by decide) HG6.out (Nat.le_trans hnw HG6.out) 0 (.int .i32 U)).other (at_set HA6_52.out 0 (.int .i32 U)) (by decide) (by decide) (by decide) HG6.out (Nat.le_trans hnw HG6.out) 1 (.int .i32 V'))
        have HB53 := hid ((HB52.out.setCell (p := ⟨B6, 0, none⟩) HG6.out (.int .i32 U)).setCell (p := ⟨B6, 1, none⟩) HG6.out (.int .i32 V'))
        refine hKK.out _ _ HB53.out (fun hHeld => ?_)
        clear hKK K k0 k1 kf
        (try simp only [Act.put, pu1, pu2, pu3])
        generalize World.setCell (World.setCell u52 _ _) _ _ = u53 at HK53 HB53 HA5_53 HA6_53 hHeld ⊢
        refine wpAnyH_ready (rs := [20]) (by kernel_rfl) (by simp) ?_
        refine AllReadyH.cons (i := 20) rfl (fun K hKK => ?_) AllReadyH.nil
        go_simp
        have HK54 := HK53
        have HB54 := HB53
        have HA5_54 := HA5_53
        have HA6_54 := HA6_53
        refine hKK.out _ _ HB54.out (fun hHeld => ?_)
        clear hKK K
        (try simp only [Act.put, pu1, pu2, pu3])
        obtain ⟨u54, hu54⟩ : ∃ z, z = u53 := ⟨_, rfl⟩
        rw [← hu54] at HK54 HB54 HA5_54 HA6_54 hHeld ⊢
        clear hu54
        refine wpAnyH_ready (rs := [21]) (by kernel_rfl) (by simp) ?_
        refine AllReadyH.cons (i := 21) rfl (fun K hKK => ?_) AllReadyH.nil
        go_simp
        have HK55 := HK54
        have HB55 := HB54
        have HA5_55 := HA5_54
        have HA6_55 := HA6_54
        refine hKK.out _ _ HB55.out (fun hHeld => ?_)
        clear hKK K
        (try simp only [Act.put, pu1, pu2, pu3])
        obtain ⟨u55, hu55⟩ : ∃ z, z = u54 := ⟨_, rfl⟩
        rw [← hu55] at HK55 HB55 HA5_55 HA6_55 hHeld ⊢
        clear hu55
        refine wpAnyH_done (by kernel_rfl) ?_ _
        refine NoPanic.normal ?_
        go_wp2_with fail
        go_meet
        case rel => exact ⟨rfl, B5, B6, rfl, rfl, rfl, HK55.out, HA5_55.out, HA6_55.out⟩
      refine AllReadyH.cons (i := 17) rfl (fun K hKK => ?_) AllReadyH.nil
      go_simp
      have HA6_56 := hid (At.new u42 #[.int .i32 0, .int .i32 0] 27)
      have HK56 := hid (HK42.out.below (Ev.bal (Ev.br u42) (.cells #[.int .i32 0, .int .i32 0] 27)))
      have HB56 := hid (Ev.bal HB42.out (.cells #[.int .i32 0, .int .i32 0] 27))
      have HG6 := hid (show w.heap.size ≤ u42.heap.size from HB42.out.size)
      have HA5_56 := hid (HA5_42.out.more (.cells #[.int .i32 0, .int .i32 0] 27))
      have HN := hid (Nat.ne_of_lt HA5_42.out.lt)
      refine hKK.out _ _ HB56.out (fun hHeld => ?_)
      clear hKK K
      (try simp only [Act.put, pu1, pu2, pu3])
      generalize World.alloc u42 _ = u56 at HK56 HB56 HA6_56 HA5_56 hHeld ⊢
      generalize u42.heap.size = B6 at HA6_56 HG6 HN ⊢
      have HNE := hid (show B5 ≠ B6 from HN.out)
      refine wpAnyH_ready (rs := [9]) (by kernel_rfl) (by simp) ?_
      refine AllReadyH.cons (i := 9) rfl (fun K hKK => ?_) AllReadyH.nil
      go_simp
      (refine (playersbox_c _).mono ?_)
      rintro e u57 ⟨rfl, g57⟩
      have HK57 := hid (HK56.out.below g57)
      have HB57 := hid (Ev.bt HB56.out g57)
      have HA5_57 := hid (HA5_56.out.below g57)
      have HA6_57 := hid (HA6_56.out.below g57)
      dsimp only
      refine hKK.out _ _ HB57.out (fun hHeld => ?_)
      clear hKK K
      (try simp only [Act.put, pu1, pu2, pu3])
      refine wpAnyH_ready (rs := [10]) (by kernel_rfl) (by simp) ?_
      refine AllReadyH.cons (i := 10) rfl (fun K hKK => ?_) AllReadyH.nil
      go_simp
      (refine (HMv _).mono ?_)
      rintro e u58 ⟨rfl, g58⟩
      have HK58 := hid (HK57.out.below g58)
      have HB58 := hid (Ev.bt HB57.out g58)
      have HA5_58 := hid (HA5_57.out.below g58)
      have HA6_58 := hid (HA6_57.out.below g58)
      dsimp only
      refine hKK.out _ _ HB58.out (fun hHeld => ?_)
      clear hKK K
      (try simp only [Act.put, pu1, pu2, pu3])
      (refine tk 11 15 ?_ rfl rfl (by kernel_rfl) (by rfl) ?_ (by assumption) ?_)
      rotate_left
      · (intro W hSW; go_simp; (try with_reducible rfl))
      simp only [Act.put, pu1, pu2, pu3]
      (refine tk 12 27 ?_ rfl rfl (by kernel_rfl) (by rfl) ?_ (by assumption) ?_)
      rotate_left
      · (intro W hSW; go_simp; (try with_reducible rfl))
      simp only [Act.put, pu1, pu2, pu3]
      (refine tk 13 28 ?_ rfl rfl (by kernel_rfl) (by rfl) ?_ (by assumption) ?_)
      rotate_left
      · (intro W hSW; go_simp; (try with_reducible rfl))
      simp only [Act.put, pu1, pu2, pu3]
      (refine tk 14 29 ?_ rfl rfl (by kernel_rfl) (by rfl) ?_ (by assumption) ?_)
      rotate_left
      · (intro W hSW; go_simp; (try with_reducible rfl))
      simp only [Act.put, pu1, pu2, pu3]
      (refine tk 15 30 ?_ rfl rfl (by kernel_rfl) (by rfl) ?_ (by assumption) ?_)
      rotate_left
      · (intro W hSW; go_simp; (try with_reducible rfl))
      simp only [Act.put, pu1, pu2, pu3]
      refine wpAnyH_ready (rs := [18]) (by kernel_rfl) (by simp) ?_
      refine AllReadyH.cons (i := 18) rfl (fun K hKK => ?_) AllReadyH.nil
      obtain ⟨k0, k1⟩ := HA5_58.out.two
      have kf := HA5_58.out.frozen
      go_simp
      have HA5_59 : Hid (At ((u58.setCell ⟨B5, 0, none⟩ (.int .i32 X)).setCell ⟨B5, 1, none⟩ (.int .i32 Y)) B5 #[.int .i32 X, .int .i32 Y] 27) := hid (at_set (at_set HA5_58.out 0 _) 1 _)
      have HA6_59 := hid ((HA6_58.out.far (j := 0) (Ne.symm HNE.out) (.int .i32 X)).far (j := 1) (Ne.symm HNE.out) (.int .i32 Y))
      have HK59 := hid ((HK58.out.other HA5_58.out (by decide) (by decide) (by decide) HG5.out (Nat.le_trans hnw HG5.out) 0 (.int .i32 X)).other (at_set HA5_58.out 0 (.int .i32 X)) (by decide) (by decide) (by decide) HG5.out (Nat.le_trans hnw HG5.out) 1 (.int .i32 Y))
      have HB59 := hid ((HB58.out.setCell (p := ⟨B5, 0, none⟩) HG5.out (.int .i32 X)).setCell (p := ⟨B5, 1, none⟩) HG5.out (.int .i32 Y))
      refine hKK.out _ _ HB59.out (fun hHeld => ?_)
      clear hKK K k0 k1 kf
      (try simp only [Act.put, pu1, pu2, pu3])
      generalize World.setCell (World.setCell u58 _ _) _ _ = u59 at HK59 HB59 HA5_59 HA6_59 hHeld ⊢
      refine wpAnyH_ready (rs := [19]) (by kernel_rfl) (by simp) ?_
      refine AllReadyH.cons (i := 19) rfl (fun K hKK => ?_) AllReadyH.nil
      obtain ⟨k0, k1⟩ := HA6_59.out.two
      have kf := HA6_59.out.frozen
      go_simp
      have HA6_60 : Hid (At ((u59.setCell ⟨B6, 0, none⟩ (.int .i32 U)).setCell ⟨B6, 1, none⟩ (.int .i32 V')) B6 #[.int .i32 U, .int .i32 V'] 27) := hid (at_set (at_set HA6_59.out 0 _) 1 _)
      have HA5_60 := hid ((HA5_59.out.far (j := 0) HNE.out (.int .i32 U)).far (j := 1) HNE.out (.int .i32 V'))
      have HK60 := hid ((HK59.out.other HA6_59.out (by decide) (by decide) (by decide) HG6.out (Nat.le_trans hnw HG6.out) 0 (.int .i32 U)).other (at_set HA6_59.out 0 (.int .i32 U)) (by decide) (by decide) (by decide) HG6.out (Nat.le_trans hnw HG6.out) 1 (.int .i32 V'))
      have HB60 := hid ((HB59.out.setCell (p := ⟨B6, 0, none⟩) HG6.out (.int .i32 U)).setCell (p := ⟨B6, 1, none⟩) HG6.out (.int .i32 V'))
      refine hKK.out _ _ HB60.out (fun hHeld => ?_)
      clear hKK K k0 k1 kf
      (try simp only [Act.put, pu1, pu2, pu3])
      generalize World.setCell (World.setCell u59 _ _) _ _ = u60 at HK60 HB60 HA5_60 HA6_60 hHeld ⊢
      refine wpAnyH_ready (rs := [20]) (by kernel_rfl) (by simp) ?_
      refine AllReadyH.cons (i := 20) rfl (fun K hKK => ?_) AllReadyH.nil
      go_simp
      have HK61 := HK60
      have HB61 := HB60
      have HA5_61 := HA5_60
      have HA6_61 := HA6_60
      refine hKK.out _ _ HB61.out (fun hHeld => ?_)
      clear hKK K
      (try simp only [Act.put, pu1, pu2, pu3])
      obtain ⟨u61, hu61⟩ : ∃ z, z = u60 := ⟨_, rfl⟩
      rw [← hu61] at HK61 HB61 HA5_61 HA6_61 hHeld ⊢
      clear hu61
      refine wpAnyH_ready (rs := [21]) (by kernel_rfl) (by simp) ?_
      refine AllReadyH.cons (i := 21) rfl (fun K hKK => ?_) AllReadyH.nil
      go_simp
      have HK62 := HK61
      have HB62 := HB61
      have HA5_62 := HA5_61
      have HA6_62 := HA6_61
      refine hKK.out _ _ HB62.out (fun hHeld => ?_)
      clear hKK K
      (try simp only [Act.put, pu1, pu2, pu3])
      obtain ⟨u62, hu62⟩ : ∃ z, z = u61 := ⟨_, rfl⟩
      rw [← hu62] at HK62 HB62 HA5_62 HA6_62 hHeld ⊢
      clear hu62
      refine wpAnyH_done (by kernel_rfl) ?_ _
      refine NoPanic.normal ?_
      go_wp2_with fail
      go_meet
      case rel => exact ⟨rfl, B5, B6, rfl, rfl, rfl, HK62.out, HA5_62.out, HA6_62.out⟩
    refine AllReadyH.cons (i := 17) rfl (fun K hKK => ?_) AllReadyH.nil
    go_simp
    have HA6_63 := hid (At.new u1 #[.int .i32 0, .int .i32 0] 27)
    have HK63 := hid (HK1.out.below (Ev.bal (Ev.br u1) (.cells #[.int .i32 0, .int .i32 0] 27)))
    have HB63 := hid (Ev.bal HB1.out (.cells #[.int .i32 0, .int .i32 0] 27))
    have HG6 := hid (show w.heap.size ≤ u1.heap.size from HB1.out.size)
    refine hKK.out _ _ HB63.out (fun hHeld => ?_)
    clear hKK K
    (try simp only [Act.put, pu1, pu2, pu3])
    generalize World.alloc u1 _ = u63 at HK63 HB63 HA6_63 hHeld ⊢
    generalize u1.heap.size = B6 at HA6_63 HG6 ⊢
    refine wpAnyH_ready (rs := [9, 16]) (by kernel_rfl) (by simp) ?_
    refine AllReadyH.cons (i := 9) rfl (fun K hKK => ?_) ?_
    · go_simp
      (refine (playersbox_c _).mono ?_)
      rintro e u64 ⟨rfl, g64⟩
      have HK64 := hid (HK63.out.below g64)
      have HB64 := hid (Ev.bt HB63.out g64)
      have HA6_64 := hid (HA6_63.out.below g64)
      dsimp only
      refine hKK.out _ _ HB64.out (fun hHeld => ?_)
      clear hKK K
      (try simp only [Act.put, pu1, pu2, pu3])
      refine wpAnyH_ready (rs := [10, 16]) (by kernel_rfl) (by simp) ?_
      refine AllReadyH.cons (i := 10) rfl (fun K hKK => ?_) ?_
      · go_simp
        (refine (HMv _).mono ?_)
        rintro e u65 ⟨rfl, g65⟩
        have HK65 := hid (HK64.out.below g65)
        have HB65 := hid (Ev.bt HB64.out g65)
        have HA6_65 := hid (HA6_64.out.below g65)
        dsimp only
        refine hKK.out _ _ HB65.out (fun hHeld => ?_)
        clear hKK K
        (try simp only [Act.put, pu1, pu2, pu3])
        (refine tk 11 15 ?_ rfl rfl (by kernel_rfl) (by rfl) ?_ (by assumption) ?_)
        rotate_left
        · (intro W hSW; go_simp; (try with_reducible rfl))
        simp only [Act.put, pu1, pu2, pu3]
        (refine tk 12 27 ?_ rfl rfl (by kernel_rfl) (by rfl) ?_ (by assumption) ?_)
        rotate_left
        · (intro W hSW; go_simp; (try with_reducible rfl))
        simp only [Act.put, pu1, pu2, pu3]
        (refine tk 13 28 ?_ rfl rfl (by kernel_rfl) (by rfl) ?_ (by assumption) ?_)
        rotate_left
        · (intro W hSW; go_simp; (try with_reducible rfl))
        simp only [Act.put, pu1, pu2, pu3]
        (refine tk 14 29 ?_ rfl rfl (by kernel_rfl) (by rfl) ?_ (by assumption) ?_)
        rotate_left
        · (intro W hSW; go_simp; (try with_reducible rfl))
        simp only [Act.put, pu1, pu2, pu3]
        (refine tk 15 30 ?_ rfl rfl (by kernel_rfl) (by rfl) ?_ (by assumption) ?_)
        rotate_left
        · (intro W hSW; go_simp; (try with_reducible rfl))
        simp only [Act.put, pu1, pu2, pu3]
        refine wpAnyH_ready (rs := [16]) (by kernel_rfl) (by simp) ?_
        refine AllReadyH.cons (i := 16) rfl (fun K hKK => ?_) AllReadyH.nil
        go_simp
        have HA5_66 := hid (At.new u65 #[.int .i32 0, .int .i32 0] 27)
        have HK66 := hid (HK65.out.below (Ev.bal (Ev.br u65) (.cells #[.int .i32 0, .int .i32 0] 27)))
        have HB66 := hid (Ev.bal HB65.out (.cells #[.int .i32 0, .int .i32 0] 27))
        have HG5 := hid (show w.heap.size ≤ u65.heap.size from HB65.out.size)
        have HA6_66 := hid (HA6_65.out.more (.cells #[.int .i32 0, .int .i32 0] 27))
        have HN := hid (Nat.ne_of_lt HA6_65.out.lt)
        refine hKK.out _ _ HB66.out (fun hHeld => ?_)
        clear hKK K
        (try simp only [Act.put, pu1, pu2, pu3])
        generalize World.alloc u65 _ = u66 at HK66 HB66 HA5_66 HA6_66 hHeld ⊢
        generalize u65.heap.size = B5 at HA5_66 HG5 HN ⊢
        have HNE := hid (show B5 ≠ B6 from Ne.symm HN.out)
        refine wpAnyH_ready (rs := [18]) (by kernel_rfl) (by simp) ?_
        refine AllReadyH.cons (i := 18) rfl (fun K hKK => ?_) AllReadyH.nil
        obtain ⟨k0, k1⟩ := HA5_66.out.two
        have kf := HA5_66.out.frozen
        go_simp
        have HA5_67 : Hid (At ((u66.setCell ⟨B5, 0, none⟩ (.int .i32 X)).setCell ⟨B5, 1, none⟩ (.int .i32 Y)) B5 #[.int .i32 X, .int .i32 Y] 27) := hid (at_set (at_set HA5_66.out 0 _) 1 _)
        have HA6_67 := hid ((HA6_66.out.far (j := 0) (Ne.symm HNE.out) (.int .i32 X)).far (j := 1) (Ne.symm HNE.out) (.int .i32 Y))
        have HK67 := hid ((HK66.out.other HA5_66.out (by decide) (by decide) (by decide) HG5.out (Nat.le_trans hnw HG5.out) 0 (.int .i32 X)).other (at_set HA5_66.out 0 (.int .i32 X)) (by decide) (by decide) (by decide) HG5.out (Nat.le_trans hnw HG5.out) 1 (.int .i32 Y))
        have HB67 := hid ((HB66.out.setCell (p := ⟨B5, 0, none⟩) HG5.out (.int .i32 X)).setCell (p := ⟨B5, 1, none⟩) HG5.out (.int .i32 Y))
        refine hKK.out _ _ HB67.out (fun hHeld => ?_)
        clear hKK K k0 k1 kf
        (try simp only [Act.put, pu1, pu2, pu3])
        generalize World.setCell (World.setCell u66 _ _) _ _ = u67 at HK67 HB67 HA5_67 HA6_67 hHeld ⊢
        refine wpAnyH_ready (rs := [19]) (by kernel_rfl) (by simp) ?_
        refine AllReadyH.cons (i := 19) rfl (fun K hKK => ?_) AllReadyH.nil
        obtain ⟨k0, k1⟩ := HA6_67.out.two
        have kf := HA6_67.out.frozen
        go_simp
        have HA6_68 : Hid (At ((u67.setCell ⟨B6, 0, none⟩ (.int .i32 U)).setCell ⟨B6, 1, none⟩ (.int .i32 V')) B6 #[.int .i32 U, .int .i32 V'] 27) := hid (at_set (at_set HA6_67.out 0 _) 1 _)
        have HA5_68 := hid ((HA5_67.out.far (j := 0) HNE.out (.int .i32 U)).far (j := 1) HNE.out (.int .i32 V'))
        have HK68 := hid ((HK67.out.other HA6_67.out (by decide) (by decide) (by decide) HG6.out (Nat.le_trans hnw HG6.out) 0 (.int .i32 U)).other (at_set HA6_67.out 0 (.int .i32 U)) (by decide) (by decide) (by decide) HG6.out (Nat.le_trans hnw HG6.out) 1 (.int .i32 V'))
        have HB68 := hid ((HB67.out.setCell (p := ⟨B6, 0, none⟩) HG6.out (.int .i32 U)).setCell (p := ⟨B6, 1, none⟩) HG6.out (.int .i32 V'))
        refine hKK.out _ _ HB68.out (fun hHeld => ?_)
        clear hKK K k0 k1 kf
        (try simp only [Act.put, pu1, pu2, pu3])
        generalize World.setCell (World.setCell u67 _ _) _ _ = u68 at HK68 HB68 HA5_68 HA6_68 hHeld ⊢
        refine wpAnyH_ready (rs := [20]) (by kernel_rfl) (by simp) ?_
        refine AllReadyH.cons (i := 20) rfl (fun K hKK => ?_) AllReadyH.nil
        go_simp
        have HK69 := HK68
        have HB69 := HB68
        have HA6_69 := HA6_68
        have HA5_69 := HA5_68
        refine hKK.out _ _ HB69.out (fun hHeld => ?_)
        clear hKK K
        (try simp only [Act.put, pu1, pu2, pu3])
        obtain ⟨u69, hu69⟩ : ∃ z, z = u68 := ⟨_, rfl⟩
        rw [← hu69] at HK69 HB69 HA5_69 HA6_69 hHeld ⊢
        clear hu69
        refine wpAnyH_ready (rs := [21]) (by kernel_rfl) (by simp) ?_
        refine AllReadyH.cons (i := 21) rfl (fun K hKK => ?_) AllReadyH.nil
        go_simp
        have HK70 := HK69
        have HB70 := HB69
        have HA6_70 := HA6_69
        have HA5_70 := HA5_69
        refine hKK.out _ _ HB70.out (fun hHeld => ?_)
        clear hKK K
        (try simp only [Act.put, pu1, pu2, pu3])
        obtain ⟨u70, hu70⟩ : ∃ z, z = u69 := ⟨_, rfl⟩
        rw [← hu70] at HK70 HB70 HA5_70 HA6_70 hHeld ⊢
        clear hu70
        refine wpAnyH_done (by kernel_rfl) ?_ _
        refine NoPanic.normal ?_
        go_wp2_with fail
        go_meet
        case rel => exact ⟨rfl, B5, B6, rfl, rfl, rfl, HK70.out, HA5_70.out, HA6_70.out⟩
      refine AllReadyH.cons (i := 16) rfl (fun K hKK => ?_) AllReadyH.nil
      go_simp
      have HA5_71 := hid (At.new u64 #[.int .i32 0, .int .i32 0] 27)
      have HK71 := hid (HK64.out.below (Ev.bal (Ev.br u64) (.cells #[.int .i32 0, .int .i32 0] 27)))
      have HB71 := hid (Ev.bal HB64.out (.cells #[.int .i32 0, .int .i32 0] 27))
      have HG5 := hid (show w.heap.size ≤ u64.heap.size from HB64.out.size)
      have HA6_71 := hid (HA6_64.out.more (.cells #[.int .i32 0, .int .i32 0] 27))
      have HN := hid (Nat.ne_of_lt HA6_64.out.lt)
      refine hKK.out _ _ HB71.out (fun hHeld => ?_)
      clear hKK K
      (try simp only [Act.put, pu1, pu2, pu3])
      generalize World.alloc u64 _ = u71 at HK71 HB71 HA5_71 HA6_71 hHeld ⊢
      generalize u64.heap.size = B5 at HA5_71 HG5 HN ⊢
      have HNE := hid (show B5 ≠ B6 from Ne.symm HN.out)
      refine wpAnyH_ready (rs := [10]) (by kernel_rfl) (by simp) ?_
      refine AllReadyH.cons (i := 10) rfl (fun K hKK => ?_) AllReadyH.nil
      go_simp
      (refine (HMv _).mono ?_)
      rintro e u72 ⟨rfl, g72⟩
      have HK72 := hid (HK71.out.below g72)
      have HB72 := hid (Ev.bt HB71.out g72)
      have HA6_72 := hid (HA6_71.out.below g72)
      have HA5_72 := hid (HA5_71.out.below g72)
      dsimp only
      refine hKK.out _ _ HB72.out (fun hHeld => ?_)
      clear hKK K
      (try simp only [Act.put, pu1, pu2, pu3])
      (refine tk 11 15 ?_ rfl rfl (by kernel_rfl) (by rfl) ?_ (by assumption) ?_)
      rotate_left
      · (intro W hSW; go_simp; (try with_reducible rfl))
      simp only [Act.put, pu1, pu2, pu3]
      (refine tk 12 27 ?_ rfl rfl (by kernel_rfl) (by rfl) ?_ (by assumption) ?_)
      rotate_left
      · (intro W hSW; go_simp; (try with_reducible rfl))
      simp only [Act.put, pu1, pu2, pu3]
      (refine tk 13 28 ?_ rfl rfl (by kernel_rfl) (by rfl) ?_ (by assumption) ?_)
      rotate_left
      · (intro W hSW; go_simp; (try with_reducible rfl))
      simp only [Act.put, pu1, pu2, pu3]
      (refine tk 14 29 ?_ rfl rfl (by kernel_rfl) (by rfl) ?_ (by assumption) ?_)
      rotate_left
      · (intro W hSW; go_simp; (try with_reducible rfl))
      simp only [Act.put, pu1, pu2, pu3]
      (refine tk 15 30 ?_ rfl rfl (by kernel_rfl) (by rfl) ?_ (by assumption) ?_)
      rotate_left
      · (intro W hSW; go_simp; (try with_reducible rfl))
      simp only [Act.put, pu1, pu2, pu3]
      refine wpAnyH_ready (rs := [18]) (by kernel_rfl) (by simp) ?_
      refine AllReadyH.cons (i := 18) rfl (fun K hKK => ?_) AllReadyH.nil
      obtain ⟨k0, k1⟩ := HA5_72.out.two
      have kf := HA5_72.out.frozen
      go_simp
      have HA5_73 : Hid (At ((u72.setCell ⟨B5, 0, none⟩ (.int .i32 X)).setCell ⟨B5, 1, none⟩ (.int .i32 Y)) B5 #[.int .i32 X, .int .i32 Y] 27) := hid (at_set (at_set HA5_72.out 0 _) 1 _)
      have HA6_73 := hid ((HA6_72.out.far (j := 0) (Ne.symm HNE.out) (.int .i32 X)).far (j := 1) (Ne.symm HNE.out) (.int .i32 Y))
      have HK73 := hid ((HK72.out.other HA5_72.out (by decide) (by decide) (by decide) HG5.out (Nat.le_trans hnw HG5.out) 0 (.int .i32 X)).other (at_set HA5_72.out 0 (.int .i32 X)) (by decide) (by decide) (by decide) HG5.out (Nat.le_trans hnw HG5.out) 1 (.int .i32 Y))
      have HB73 := hid ((HB72.out.setCell (p := ⟨B5, 0, none⟩) HG5.out (.int .i32 X)).setCell (p := ⟨B5, 1, none⟩) HG5.out (.int .i32 Y))
      refine hKK.out _ _ HB73.out (fun hHeld => ?_)
      clear hKK K k0 k1 kf
      (try simp only [Act.put, pu1, pu2, pu3])
      generalize World.setCell (World.setCell u72 _ _) _ _ = u73 at HK73 HB73 HA5_73 HA6_73 hHeld ⊢
      refine wpAnyH_ready (rs := [19]) (by kernel_rfl) (by simp) ?_
      refine AllReadyH.cons (i := 19) rfl (fun K hKK => ?_) AllReadyH.nil
      obtain ⟨k0, k1⟩ := HA6_73.out.two
      have kf := HA6_73.out.frozen
      go_simp
      have HA6_74 : Hid (At ((u73.setCell ⟨B6, 0, none⟩ (.int .i32 U)).setCell ⟨B6, 1, none⟩ (.int .i32 V')) B6 #[.int .i32 U, .int .i32 V'] 27) := hid (at_set (at_set HA6_73.out 0 _) 1 _)
      have HA5_74 := hid ((HA5_73.out.far (j := 0) HNE.out (.int .i32 U)).far (j := 1) HNE.out (.int .i32 V'))
      have HK74 := hid ((HK73.out.other HA6_73.out (by decide) (by decide) (by decide) HG6.out (Nat.le_trans hnw HG6.out) 0 (.int .i32 U)).other (at_set HA6_73.out 0 (.int .i32 U)) (by decide) (by decide) (by decide) HG6.out (Nat.le_trans hnw HG6.out) 1 (.int .i32 V'))
      have HB74 := hid ((HB73.out.setCell (p := ⟨B6, 0, none⟩) HG6.out (.int .i32 U)).setCell (p := ⟨B6, 1, none⟩) HG6.out (.int .i32 V'))
      refine hKK.out _ _ HB74.out (fun hHeld => ?_)
      clear hKK K k0 k1 kf
      (try simp only [Act.put, pu1, pu2, pu3])
      generalize World.setCell (World.setCell u73 _ _) _ _ = u74 at HK74 HB74 HA5_74 HA6_74 hHeld ⊢
      refine wpAnyH_ready (rs := [20]) (by kernel_rfl) (by simp) ?_
      refine AllReadyH.cons (i := 20) rfl (fun K hKK => ?_) AllReadyH.nil
      go_simp
      have HK75 := HK74
      have HB75 := HB74
      have HA6_75 := HA6_74
      have HA5_75 := HA5_74
      refine hKK.out _ _ HB75.out (fun hHeld => ?_)
      clear hKK K
      (try simp only [Act.put, pu1, pu2, pu3])
      obtain ⟨u75, hu75⟩ : ∃ z, z = u74 := ⟨_, rfl⟩
      rw [← hu75] at HK75 HB75 HA5_75 HA6_75 hHeld ⊢
      clear hu75
      refine wpAnyH_ready (rs := [21]) (by kernel_rfl) (by simp) ?_
      refine AllReadyH.cons (i := 21) rfl (fun K hKK => ?_) AllReadyH.nil
      go_simp
      have HK76 := HK75
      have HB76 := HB75
      have HA6_76 := HA6_75
      have HA5_76 := HA5_75
      refine hKK.out _ _ HB76.out (fun hHeld => ?_)
      clear hKK K
      (try simp only [Act.put, pu1, pu2, pu3])
      obtain ⟨u76, hu76⟩ : ∃ z, z = u75 := ⟨_, rfl⟩
      rw [← hu76] at HK76 HB76 HA5_76 HA6_76 hHeld ⊢
      clear hu76
      refine wpAnyH_done (by kernel_rfl) ?_ _
      refine NoPanic.normal ?_
      go_wp2_with fail
      go_meet
      case rel => exact ⟨rfl, B5, B6, rfl, rfl, rfl, HK76.out, HA5_76.out, HA6_76.out⟩
    refine AllReadyH.cons (i := 16) rfl (fun K hKK => ?_) AllReadyH.nil
    go_simp
    have HA5_77 := hid (At.new u63 #[.int .i32 0, .int .i32 0] 27)
    have HK77 := hid (HK63.out.below (Ev.bal (Ev.br u63) (.cells #[.int .i32 0, .int .i32 0] 27)))
    have HB77 := hid (Ev.bal HB63.out (.cells #[.int .i32 0, .int .i32 0] 27))
    have HG5 := hid (show w.heap.size ≤ u63.heap.size from HB63.out.size)
    have HA6_77 := hid (HA6_63.out.more (.cells #[.int .i32 0, .int .i32 0] 27))
    have HN := hid (Nat.ne_of_lt HA6_63.out.lt)
    refine hKK.out _ _ HB77.out (fun hHeld => ?_)
    clear hKK K
    (try simp only [Act.put, pu1, pu2, pu3])
    generalize World.alloc u63 _ = u77 at HK77 HB77 HA5_77 HA6_77 hHeld ⊢
    generalize u63.heap.size = B5 at HA5_77 HG5 HN ⊢
    have HNE := hid (show B5 ≠ B6 from Ne.symm HN.out)
    refine wpAnyH_ready (rs := [9]) (by kernel_rfl) (by simp) ?_
    refine AllReadyH.cons (i := 9) rfl (fun K hKK => ?_) AllReadyH.nil
    go_simp
    (refine (playersbox_c _).mono ?_)
    rintro e u78 ⟨rfl, g78⟩
    have HK78 := hid (HK77.out.below g78)
    have HB78 := hid (Ev.bt HB77.out g78)
    have HA6_78 := hid (HA6_77.out.below g78)
    have HA5_78 := hid (HA5_77.out.below g78)
    dsimp only
    refine hKK.out _ _ HB78.out (fun hHeld => ?_)
    clear hKK K
    (try simp only [Act.put, pu1, pu2, pu3])
    refine wpAnyH_ready (rs := [10]) (by kernel_rfl) (by simp) ?_
    refine AllReadyH.cons (i := 10) rfl (fun K hKK => ?_) AllReadyH.nil
    go_simp
    (refine (HMv _).mono ?_)
    rintro e u79 ⟨rfl, g79⟩
    have HK79 := hid (HK78.out.below g79)
    have HB79 := hid (Ev.bt HB78.out g79)
    have HA6_79 := hid (HA6_78.out.below g79)
    have HA5_79 := hid (HA5_78.out.below g79)
    dsimp only
    refine hKK.out _ _ HB79.out (fun hHeld => ?_)
    clear hKK K
    (try simp only [Act.put, pu1, pu2, pu3])
    (refine tk 11 15 ?_ rfl rfl (by kernel_rfl) (by rfl) ?_ (by assumption) ?_)
    rotate_left
    · (intro W hSW; go_simp; (try with_reducible rfl))
    simp only [Act.put, pu1, pu2, pu3]
    (refine tk 12 27 ?_ rfl rfl (by kernel_rfl) (by rfl) ?_ (by assumption) ?_)
    rotate_left
    · (intro W hSW; go_simp; (try with_reducible rfl))
    simp only [Act.put, pu1, pu2, pu3]
    (refine tk 13 28 ?_ rfl rfl (by kernel_rfl) (by rfl) ?_ (by assumption) ?_)
    rotate_left
    · (intro W hSW; go_simp; (try with_reducible rfl))
    simp only [Act.put, pu1, pu2, pu3]
    (refine tk 14 29 ?_ rfl rfl (by kernel_rfl) (by rfl) ?_ (by assumption) ?_)
    rotate_left
    · (intro W hSW; go_simp; (try with_reducible rfl))
    simp only [Act.put, pu1, pu2, pu3]
    (refine tk 15 30 ?_ rfl rfl (by kernel_rfl) (by rfl) ?_ (by assumption) ?_)
    rotate_left
    · (intro W hSW; go_simp; (try with_reducible rfl))
    simp only [Act.put, pu1, pu2, pu3]
    refine wpAnyH_ready (rs := [18]) (by kernel_rfl) (by simp) ?_
    refine AllReadyH.cons (i := 18) rfl (fun K hKK => ?_) AllReadyH.nil
    obtain ⟨k0, k1⟩ := HA5_79.out.two
    have kf := HA5_79.out.frozen
    go_simp
    have HA5_80 : Hid (At ((u79.setCell ⟨B5, 0, none⟩ (.int .i32 X)).setCell ⟨B5, 1, none⟩ (.int .i32 Y)) B5 #[.int .i32 X, .int .i32 Y] 27) := hid (at_set (at_set HA5_79.out 0 _) 1 _)
    have HA6_80 := hid ((HA6_79.out.far (j := 0) (Ne.symm HNE.out) (.int .i32 X)).far (j := 1) (Ne.symm HNE.out) (.int .i32 Y))
    have HK80 := hid ((HK79.out.other HA5_79.out (by decide) (by decide) (by decide) HG5.out (Nat.le_trans hnw HG5.out) 0 (.int .i32 X)).other (at_set HA5_79.out 0 (.int .i32 X)) (by decide) (by decide) (by decide) HG5.out (Nat.le_trans hnw HG5.out) 1 (.int .i32 Y))
    have HB80 := hid ((HB79.out.setCell (p := ⟨B5, 0, none⟩) HG5.out (.int .i32 X)).setCell (p := ⟨B5, 1, none⟩) HG5.out (.int .i32 Y))
    refine hKK.out _ _ HB80.out (fun hHeld => ?_)
    clear hKK K k0 k1 kf
    (try simp only [Act.put, pu1, pu2, pu3])
    generalize World.setCell (World.setCell u79 _ _) _ _ = u80 at HK80 HB80 HA5_80 HA6_80 hHeld ⊢
    refine wpAnyH_ready (rs := [19]) (by kernel_rfl) (by simp) ?_
    refine AllReadyH.cons (i := 19) rfl (fun K hKK => ?_) AllReadyH.nil
    obtain ⟨k0, k1⟩ := HA6_80.out.two
    have kf := HA6_80.out.frozen
    go_simp
    have HA6_81 : Hid (At ((u80.setCell ⟨B6, 0, none⟩ (.int .i32 U)).setCell ⟨B6, 1, none⟩ (.int .i32 V')) B6 #[.int .i32 U, .int .i32 V'] 27) := hid (at_set (at_set HA6_80.out 0 _) 1 _)
    have HA5_81 := hid ((HA5_80.out.far (j := 0) HNE.out (.int .i32 U)).far (j := 1) HNE.out (.int .i32 V'))
    have HK81 := hid ((HK80.out.other HA6_80.out (by decide) (by decide) (by decide) HG6.out (Nat.le_trans hnw HG6.out) 0 (.int .i32 U)).other (at_set HA6_80.out 0 (.int .i32 U)) (by decide) (by decide) (by decide) HG6.out (Nat.le_trans hnw HG6.out) 1 (.int .i32 V'))
    have HB81 := hid ((HB80.out.setCell (p := ⟨B6, 0, none⟩) HG6.out (.int .i32 U)).setCell (p := ⟨B6, 1, none⟩) HG6.out (.int .i32 V'))
    refine hKK.out _ _ HB81.out (fun hHeld => ?_)
    clear hKK K k0 k1 kf
    (try simp only [Act.put, pu1, pu2, pu3])
    generalize World.setCell (World.setCell u80 _ _) _ _ = u81 at HK81 HB81 HA5_81 HA6_81 hHeld ⊢
    refine wpAnyH_ready (rs := [20]) (by kernel_rfl) (by simp) ?_
    refine AllReadyH.cons (i := 20) rfl (fun K hKK => ?_) AllReadyH.nil
    go_simp
    have HK82 := HK81
    have HB82 := HB81
    have HA6_82 := HA6_81
    have HA5_82 := HA5_81
    refine hKK.out _ _ HB82.out (fun hHeld => ?_)
    clear hKK K
    (try simp only [Act.put, pu1, pu2, pu3])
    obtain ⟨u82, hu82⟩ : ∃ z, z = u81 := ⟨_, rfl⟩
    rw [← hu82] at HK82 HB82 HA5_82 HA6_82 hHeld ⊢
    clear hu82
    refine wpAnyH_ready (rs := [21]) (by kernel_rfl) (by simp) ?_
    refine AllReadyH.cons (i := 21) rfl (fun K hKK => ?_) AllReadyH.nil
    go_simp
    have HK83 := HK82
    have HB83 := HB82
    have HA6_83 := HA6_82
    have HA5_83 := HA5_82
    refine hKK.out _ _ HB83.out (fun hHeld => ?_)
    clear hKK K
    (try simp only [Act.put, pu1, pu2, pu3])
    obtain ⟨u83, hu83⟩ : ∃ z, z = u82 := ⟨_, rfl⟩
    rw [← hu83] at HK83 HB83 HA5_83 HA6_83 hHeld ⊢
    clear hu83
    refine wpAnyH_done (by kernel_rfl) ?_ _
    refine NoPanic.normal ?_
    go_wp2_with fail
    go_meet
    case rel => exact ⟨rfl, B5, B6, rfl, rfl, rfl, HK83.out, HA5_83.out, HA6_83.out⟩
  refine AllReadyH.cons (i := 16) rfl (fun K hKK => ?_) ?_
  · go_simp
    have HA5_84 := hid (At.new u0 #[.int .i32 0, .int .i32 0] 27)
    have HK84 := hid (HK0.out.below (Ev.bal (Ev.br u0) (.cells #[.int .i32 0, .int .i32 0] 27)))
    have HB84 := hid (Ev.bal HB0.out (.cells #[.int .i32 0, .int .i32 0] 27))
    have HG5 := hid (show w.heap.size ≤ u0.heap.size from HB0.out.size)
    refine hKK.out _ _ HB84.out (fun hHeld => ?_)
    clear hKK K
    (try simp only [Act.put, pu1, pu2, pu3])
    generalize World.alloc u0 _ = u84 at HK84 HB84 HA5_84 hHeld ⊢
    generalize u0.heap.size = B5 at HA5_84 HG5 ⊢
    refine wpAnyH_ready (rs := [8, 17]) (by kernel_rfl) (by simp) ?_
    refine AllReadyH.cons (i := 8) rfl (fun K hKK => ?_) ?_
    · go_simp
      (refine (HSl _).mono ?_)
      rintro e u85 ⟨rfl, g85⟩
      have HK85 := hid (HK84.out.below g85)
      have HB85 := hid (Ev.bt HB84.out g85)
      have HA5_85 := hid (HA5_84.out.below g85)
      dsimp only
      refine hKK.out _ _ HB85.out (fun hHeld => ?_)
      clear hKK K
      (try simp only [Act.put, pu1, pu2, pu3])
      refine wpAnyH_ready (rs := [9, 17]) (by kernel_rfl) (by simp) ?_
      refine AllReadyH.cons (i := 9) rfl (fun K hKK => ?_) ?_
      · go_simp
        (refine (playersbox_c _).mono ?_)
        rintro e u86 ⟨rfl, g86⟩
        have HK86 := hid (HK85.out.below g86)
        have HB86 := hid (Ev.bt HB85.out g86)
        have HA5_86 := hid (HA5_85.out.below g86)
        dsimp only
        refine hKK.out _ _ HB86.out (fun hHeld => ?_)
        clear hKK K
        (try simp only [Act.put, pu1, pu2, pu3])
        refine wpAnyH_ready (rs := [10, 17]) (by kernel_rfl) (by simp) ?_
        refine AllReadyH.cons (i := 10) rfl (fun K hKK => ?_) ?_
        · go_simp
          (refine (HMv _).mono ?_)
          rintro e u87 ⟨rfl, g87⟩
          have HK87 := hid (HK86.out.below g87)
          have HB87 := hid (Ev.bt HB86.out g87)
          have HA5_87 := hid (HA5_86.out.below g87)
          dsimp only
          refine hKK.out _ _ HB87.out (fun hHeld => ?_)
          clear hKK K
          (try simp only [Act.put, pu1, pu2, pu3])
          (refine tk 11 15 ?_ rfl rfl (by kernel_rfl) (by rfl) ?_ (by assumption) ?_)
          rotate_left
          · (intro W hSW; go_simp; (try with_reducible rfl))
          simp only [Act.put, pu1, pu2, pu3]
          (refine tk 12 27 ?_ rfl rfl (by kernel_rfl) (by rfl) ?_ (by assumption) ?_)
          rotate_left
          · (intro W hSW; go_simp; (try with_reducible rfl))
          simp only [Act.put, pu1, pu2, pu3]
          (refine tk 13 28 ?_ rfl rfl (by kernel_rfl) (by rfl) ?_ (by assumption) ?_)
          rotate_left
          · (intro W hSW; go_simp; (try with_reducible rfl))
          simp only [Act.put, pu1, pu2, pu3]
          (refine tk 14 29 ?_ rfl rfl (by kernel_rfl) (by rfl) ?_ (by assumption) ?_)
          rotate_left
          · (intro W hSW; go_simp; (try with_reducible rfl))
          simp only [Act.put, pu1, pu2, pu3]
          (refine tk 15 30 ?_ rfl rfl (by kernel_rfl) (by rfl) ?_ (by assumption) ?_)
          rotate_left
          · (intro W hSW; go_simp; (try with_reducible rfl))
          simp only [Act.put, pu1, pu2, pu3]
          refine wpAnyH_ready (rs := [17]) (by kernel_rfl) (by simp) ?_
          refine AllReadyH.cons (i := 17) rfl (fun K hKK => ?_) AllReadyH.nil
          go_simp
          have HA6_88 := hid (At.new u87 #[.int .i32 0, .int .i32 0] 27)
          have HK88 := hid (HK87.out.below (Ev.bal (Ev.br u87) (.cells #[.int .i32 0, .int .i32 0] 27)))
          have HB88 := hid (Ev.bal HB87.out (.cells #[.int .i32 0, .int .i32 0] 27))
          have HG6 := hid (show w.heap.size ≤ u87.heap.size from HB87.out.size)
          have HA5_88 := hid (HA5_87.out.more (.cells #[.int .i32 0, .int .i32 0] 27))
          have HN := hid (Nat.ne_of_lt HA5_87.out.lt)
          refine hKK.out _ _ HB88.out (fun hHeld => ?_)
          clear hKK K
          (try simp only [Act.put, pu1, pu2, pu3])
          generalize World.alloc u87 _ = u88 at HK88 HB88 HA6_88 HA5_88 hHeld ⊢
          generalize u87.heap.size = B6 at HA6_88 HG6 HN ⊢
          have HNE := hid (show B5 ≠ B6 from HN.out)
          refine wpAnyH_ready (rs := [18]) (by kernel_rfl) (by simp) ?_
          refine AllReadyH.cons (i := 18) rfl (fun K hKK => ?_) AllReadyH.nil
          obtain ⟨k0, k1⟩ := HA5_88.out.two
          have kf := HA5_88.out.frozen
          go_simp
          have HA5_89 : Hid (At ((u88.setCell ⟨B5, 0, none⟩ (.int .i32 X)).setCell ⟨B5, 1, none⟩ (.int .i32 Y)) B5 #[.int .i32 X, .int .i32 Y] 27) := hid (at_set (at_set HA5_88.out 0 _) 1 _)
          have HA6_89 := hid ((HA6_88.out.far (j := 0) (Ne.symm HNE.out) (.int .i32 X)).far (j := 1) (Ne.symm HNE.out) (.int .i32 Y))
          have HK89 := hid ((HK88.out.other HA5_88.out (by decide) (by decide) (by decide) HG5.out (Nat.le_trans hnw HG5.out) 0 (.int .i32 X)).other (at_set HA5_88.out 0 (.int .i32 X)) (by decide) (by decide) (by decide) HG5.out (Nat.le_trans hnw HG5.out) 1 (.int .i32 Y))
          have HB89 := hid ((HB88.out.setCell (p := ⟨B5, 0, none⟩) HG5.out (.int .i32 X)).setCell (p := ⟨B5, 1, none⟩) HG5.out (.int .i32 Y))
          refine hKK.out _ _ HB89.out (fun hHeld => ?_)
          clear hKK K k0 k1 kf
          (try simp only [Act.put, pu1, pu2, pu3])
          generalize World.setCell (World.setCell u88 _ _) _ _ = u89 at HK89 HB89 HA5_89 HA6_89 hHeld ⊢
          refine wpAnyH_ready (rs := [19]) (by kernel_rfl) (by simp) ?_
          refine AllReadyH.cons (i := 19) rfl (fun K hKK => ?_) AllReadyH.nil
          obtain ⟨k0, k1⟩ := HA6_89.out.two
          have kf := HA6_89.out.frozen
          go_simp
          have HA6_90 : Hid (At ((u89.setCell ⟨B6, 0, none⟩ (.int .i32 U)).setCell ⟨B6, 1, none⟩ (.int .i32 V')) B6 #[.int .i32 U, .int .i32 V'] 27) := hid (at_set (at_set HA6_89.out 0 _) 1 _)
          have HA5_90 := hid ((HA5_89.out.far (j := 0) HNE.out (.int .i32 U)).far (j := 1) HNE.out (.int .i32 V'))
          have HK90 := hid ((HK89.out.other HA6_89.out (by decide) (by decide) (by decide) HG6.out (Nat.le_trans hnw HG6.out) 0 (.int .i32 U)).other (at_set HA6_89.out 0 (.int .i32 U)) (by decide) (by decide) (by decide) HG6.out (Nat.le_trans hnw HG6.out) 1 (.int .i32 V'))
          have HB90 := hid ((HB89.out.setCell (p := ⟨B6, 0, none⟩) HG6.out (.int .i32 U)).setCell (p := ⟨B6, 1, none⟩) HG6.out (.int .i32 V'))
          refine hKK.out _ _ HB90.out (fun hHeld => ?_)
          clear hKK K k0 k1 kf
          (try simp only [Act.put, pu1, pu2, pu3])
          generalize World.setCell (World.setCell u89 _ _) _ _ = u90 at HK90 HB90 HA5_90 HA6_90 hHeld ⊢
          refine wpAnyH_ready (rs := [20]) (by kernel_rfl) (by simp) ?_
          refine AllReadyH.cons (i := 20) rfl (fun K hKK => ?_) AllReadyH.nil
          go_simp
          have HK91 := HK90
          have HB91 := HB90
          have HA5_91 := HA5_90
          have HA6_91 := HA6_90
          refine hKK.out _ _ HB91.out (fun hHeld => ?_)
          clear hKK K
          (try simp only [Act.put, pu1, pu2, pu3])
          obtain ⟨u91, hu91⟩ : ∃ z, z = u90 := ⟨_, rfl⟩
          rw [← hu91] at HK91 HB91 HA5_91 HA6_91 hHeld ⊢
          clear hu91
          refine wpAnyH_ready (rs := [21]) (by kernel_rfl) (by simp) ?_
          refine AllReadyH.cons (i := 21) rfl (fun K hKK => ?_) AllReadyH.nil
          go_simp
          have HK92 := HK91
          have HB92 := HB91
          have HA5_92 := HA5_91
          have HA6_92 := HA6_91
          refine hKK.out _ _ HB92.out (fun hHeld => ?_)
          clear hKK K
          (try simp only [Act.put, pu1, pu2, pu3])
          obtain ⟨u92, hu92⟩ : ∃ z, z = u91 := ⟨_, rfl⟩
          rw [← hu92] at HK92 HB92 HA5_92 HA6_92 hHeld ⊢
          clear hu92
          refine wpAnyH_done (by kernel_rfl) ?_ _
          refine NoPanic.normal ?_
          go_wp2_with fail
          go_meet
          case rel => exact ⟨rfl, B5, B6, rfl, rfl, rfl, HK92.out, HA5_92.out, HA6_92.out⟩
        refine AllReadyH.cons (i := 17) rfl (fun K hKK => ?_) AllReadyH.nil
        go_simp
        have HA6_93 := hid (At.new u86 #[.int .i32 0, .int .i32 0] 27)
        have HK93 := hid (HK86.out.below (Ev.bal (Ev.br u86) (.cells #[.int .i32 0, .int .i32 0] 27)))
        have HB93 := hid (Ev.bal HB86.out (.cells #[.int .i32 0, .int .i32 0] 27))
        have HG6 := hid (show w.heap.size ≤ u86.heap.size from HB86.out.size)
        have HA5_93 := hid (HA5_86.out.more (.cells #[.int .i32 0, .int .i32 0] 27))
        have HN := hid (Nat.ne_of_lt HA5_86.out.lt)
        refine hKK.out _ _ HB93.out (fun hHeld => ?_)
        clear hKK K
        (try simp only [Act.put, pu1, pu2, pu3])
        generalize World.alloc u86 _ = u93 at HK93 HB93 HA6_93 HA5_93 hHeld ⊢
        generalize u86.heap.size = B6 at HA6_93 HG6 HN ⊢
        have HNE := hid (show B5 ≠ B6 from HN.out)
        refine wpAnyH_ready (rs := [10]) (by kernel_rfl) (by simp) ?_
        refine AllReadyH.cons (i := 10) rfl (fun K hKK => ?_) AllReadyH.nil
        go_simp
        (refine (HMv _).mono ?_)
        rintro e u94 ⟨rfl, g94⟩
        have HK94 := hid (HK93.out.below g94)
        have HB94 := hid (Ev.bt HB93.out g94)
        have HA5_94 := hid (HA5_93.out.below g94)
        have HA6_94 := hid (HA6_93.out.below g94)
        dsimp only
        refine hKK.out _ _ HB94.out (fun hHeld => ?_)
        clear hKK K
        (try simp only [Act.put, pu1, pu2, pu3])
        (refine tk 11 15 ?_ rfl rfl (by kernel_rfl) (by rfl) ?_ (by assumption) ?_)
        rotate_left
        · (intro W hSW; go_simp; (try with_reducible rfl))
        simp only [Act.put, pu1, pu2, pu3]
        (refine tk 12 27 ?_ rfl rfl (by kernel_rfl) (by rfl) ?_ (by assumption) ?_)
        rotate_left
        · (intro W hSW; go_simp; (try with_reducible rfl))
        simp only [Act.put, pu1, pu2, pu3]
        (refine tk 13 28 ?_ rfl rfl (by kernel_rfl) (by rfl) ?_ (by assumption) ?_)
        rotate_left
        · (intro W hSW; go_simp; (try with_reducible rfl))
        simp only [Act.put, pu1, pu2, pu3]
        (refine tk 14 29 ?_ rfl rfl (by kernel_rfl) (by rfl) ?_ (by assumption) ?_)
        rotate_left
        · (intro W hSW; go_simp; (try with_reducible rfl))
        simp only [Act.put, pu1, pu2, pu3]
        (refine tk 15 30 ?_ rfl rfl (by kernel_rfl) (by rfl) ?_ (by assumption) ?_)
        rotate_left
        · (intro W hSW; go_simp; (try with_reducible rfl))
        simp only [Act.put, pu1, pu2, pu3]
        refine wpAnyH_ready (rs := [18]) (by kernel_rfl) (by simp) ?_
        refine AllReadyH.cons (i := 18) rfl (fun K hKK => ?_) AllReadyH.nil
        obtain ⟨k0, k1⟩ := HA5_94.out.two
        have kf := HA5_94.out.frozen
        go_simp
        have HA5_95 : Hid (At ((u94.setCell ⟨B5, 0, none⟩ (.int .i32 X)).setCell ⟨B5, 1, none⟩ (.int .i32 Y)) B5 #[.int .i32 X, .int .i32 Y] 27) := hid (at_set (at_set HA5_94.out 0 _) 1 _)
        have HA6_95 := hid ((HA6_94.out.far (j := 0) (Ne.symm HNE.out) (.int .i32 X)).far (j := 1) (Ne.symm HNE.out) (.int .i32 Y))
        have HK95 := hid ((HK94.out.other HA5_94.out (by decide) (by decide) (by decide) HG5.out (Nat.le_trans hnw HG5.out) 0 (.int .i32 X)).other (at_set HA5_94.out 0 (.int .i32 X)) (by decide) (by decide) (by decide) HG5.out (Nat.le_trans hnw HG5.out) 1 (.int .i32 Y))
        have HB95 := hid ((HB94.out.setCell (p := ⟨B5, 0, none⟩) HG5.out (.int .i32 X)).setCell (p := ⟨B5, 1, none⟩) HG5.out (.int .i32 Y))
        refine hKK.out _ _ HB95.out (fun hHeld => ?_)
        clear hKK K k0 k1 kf
        (try simp only [Act.put, pu1, pu2, pu3])
        generalize World.setCell (World.setCell u94 _ _) _ _ = u95 at HK95 HB95 HA5_95 HA6_95 hHeld ⊢
        refine wpAnyH_ready (rs := [19]) (by kernel_rfl) (by simp) ?_
        refine AllReadyH.cons (i := 19) rfl (fun K hKK => ?_) AllReadyH.nil
        obtain ⟨k0, k1⟩ := HA6_95.out.two
        have kf := HA6_95.out.frozen
        go_simp
        have HA6_96 : Hid (At ((u95.setCell ⟨B6, 0, none⟩ (.int .i32 U)).setCell ⟨B6, 1, none⟩ (.int .i32 V')) B6 #[.int .i32 U, .int .i32 V'] 27) := hid (at_set (at_set HA6_95.out 0 _) 1 _)
        have HA5_96 := hid ((HA5_95.out.far (j := 0) HNE.out (.int .i32 U)).far (j := 1) HNE.out (.int .i32 V'))
        have HK96 := hid ((HK95.out.other HA6_95.out (by decide) (by decide) (by decide) HG6.out (Nat.le_trans hnw HG6.out) 0 (.int .i32 U)).other (at_set HA6_95.out 0 (.int .i32 U)) (by decide) (by decide) (by decide) HG6.out (Nat.le_trans hnw HG6.out) 1 (.int .i32 V'))
        have HB96 := hid ((HB95.out.setCell (p := ⟨B6, 0, none⟩) HG6.out (.int .i32 U)).setCell (p := ⟨B6, 1, none⟩) HG6.out (.int .i32 V'))
        refine hKK.out _ _ HB96.out (fun hHeld => ?_)
        clear hKK K k0 k1 kf
        (try simp only [Act.put, pu1, pu2, pu3])
        generalize World.setCell (World.setCell u95 _ _) _ _ = u96 at HK96 HB96 HA5_96 HA6_96 hHeld ⊢
        refine wpAnyH_ready (rs := [20]) (by kernel_rfl) (by simp) ?_
        refine AllReadyH.cons (i := 20) rfl (fun K hKK => ?_) AllReadyH.nil
        go_simp
        have HK97 := HK96
        have HB97 := HB96
        have HA5_97 := HA5_96
        have HA6_97 := HA6_96
        refine hKK.out _ _ HB97.out (fun hHeld => ?_)
        clear hKK K
        (try simp only [Act.put, pu1, pu2, pu3])
        obtain ⟨u97, hu97⟩ : ∃ z, z = u96 := ⟨_, rfl⟩
        rw [← hu97] at HK97 HB97 HA5_97 HA6_97 hHeld ⊢
        clear hu97
        refine wpAnyH_ready (rs := [21]) (by kernel_rfl) (by simp) ?_
        refine AllReadyH.cons (i := 21) rfl (fun K hKK => ?_) AllReadyH.nil
        go_simp
        have HK98 := HK97
        have HB98 := HB97
        have HA5_98 := HA5_97
        have HA6_98 := HA6_97
        refine hKK.out _ _ HB98.out (fun hHeld => ?_)
        clear hKK K
        (try simp only [Act.put, pu1, pu2, pu3])
        obtain ⟨u98, hu98⟩ : ∃ z, z = u97 := ⟨_, rfl⟩
        rw [← hu98] at HK98 HB98 HA5_98 HA6_98 hHeld ⊢
        clear hu98
        refine wpAnyH_done (by kernel_rfl) ?_ _
        refine NoPanic.normal ?_
        go_wp2_with fail
        go_meet
        case rel => exact ⟨rfl, B5, B6, rfl, rfl, rfl, HK98.out, HA5_98.out, HA6_98.out⟩
      refine AllReadyH.cons (i := 17) rfl (fun K hKK => ?_) AllReadyH.nil
      go_simp
      have HA6_99 := hid (At.new u85 #[.int .i32 0, .int .i32 0] 27)
      have HK99 := hid (HK85.out.below (Ev.bal (Ev.br u85) (.cells #[.int .i32 0, .int .i32 0] 27)))
      have HB99 := hid (Ev.bal HB85.out (.cells #[.int .i32 0, .int .i32 0] 27))
      have HG6 := hid (show w.heap.size ≤ u85.heap.size from HB85.out.size)
      have HA5_99 := hid (HA5_85.out.more (.cells #[.int .i32 0, .int .i32 0] 27))
      have HN := hid (Nat.ne_of_lt HA5_85.out.lt)
      refine hKK.out _ _ HB99.out (fun hHeld => ?_)
      clear hKK K
      (try simp only [Act.put, pu1, pu2, pu3])
      generalize World.alloc u85 _ = u99 at HK99 HB99 HA6_99 HA5_99 hHeld ⊢
      generalize u85.heap.size = B6 at HA6_99 HG6 HN ⊢
      have HNE := hid (show B5 ≠ B6 from HN.out)
      refine wpAnyH_ready (rs := [9]) (by kernel_rfl) (by simp) ?_
      refine AllReadyH.cons (i := 9) rfl (fun K hKK => ?_) AllReadyH.nil
      go_simp
      (refine (playersbox_c _).mono ?_)
      rintro e u100 ⟨rfl, g100⟩
      have HK100 := hid (HK99.out.below g100)
      have HB100 := hid (Ev.bt HB99.out g100)
      have HA5_100 := hid (HA5_99.out.below g100)
      have HA6_100 := hid (HA6_99.out.below g100)
      dsimp only
      refine hKK.out _ _ HB100.out (fun hHeld => ?_)
      clear hKK K
      (try simp only [Act.put, pu1, pu2, pu3])
      refine wpAnyH_ready (rs := [10]) (by kernel_rfl) (by simp) ?_
      refine AllReadyH.cons (i := 10) rfl (fun K hKK => ?_) AllReadyH.nil
      go_simp
      (refine (HMv _).mono ?_)
      rintro e u101 ⟨rfl, g101⟩
      have HK101 := hid (HK100.out.below g101)
      have HB101 := hid (Ev.bt HB100.out g101)
      have HA5_101 := hid (HA5_100.out.below g101)
      have HA6_101 := hid (HA6_100.out.below g101)
      dsimp only
      refine hKK.out _ _ HB101.out (fun hHeld => ?_)
      clear hKK K
      (try simp only [Act.put, pu1, pu2, pu3])
      (refine tk 11 15 ?_ rfl rfl (by kernel_rfl) (by rfl) ?_ (by assumption) ?_)
      rotate_left
      · (intro W hSW; go_simp; (try with_reducible rfl))
      simp only [Act.put, pu1, pu2, pu3]
      (refine tk 12 27 ?_ rfl rfl (by kernel_rfl) (by rfl) ?_ (by assumption) ?_)
      rotate_left
      · (intro W hSW; go_simp; (try with_reducible rfl))
      simp only [Act.put, pu1, pu2, pu3]
      (refine tk 13 28 ?_ rfl rfl (by kernel_rfl) (by rfl) ?_ (by assumption) ?_)
      rotate_left
      · (intro W hSW; go_simp; (try with_reducible rfl))
      simp only [Act.put, pu1, pu2, pu3]
      (refine tk 14 29 ?_ rfl rfl (by kernel_rfl) (by rfl) ?_ (by assumption) ?_)
      rotate_left
      · (intro W hSW; go_simp; (try with_reducible rfl))
      simp only [Act.put, pu1, pu2, pu3]
      (refine tk 15 30 ?_ rfl rfl (by kernel_rfl) (by rfl) ?_ (by assumption) ?_)
      rotate_left
      · (intro W hSW; go_simp; (try with_reducible rfl))
      simp only [Act.put, pu1, pu2, pu3]
      refine wpAnyH_ready (rs := [18]) (by kernel_rfl) (by simp) ?_
      refine AllReadyH.cons (i := 18) rfl (fun K hKK => ?_) AllReadyH.nil
      obtain ⟨k0, k1⟩ := HA5_101.out.two
      have kf := HA5_101.out.frozen
      go_simp
      have HA5_102 : Hid (At ((u101.setCell ⟨B5, 0, none⟩ (.int .i32 X)).setCell ⟨B5, 1, none⟩ (.int .i32 Y)) B5 #[.int .i32 X, .int .i32 Y] 27) := hid (at_set (at_set HA5_101.out 0 _) 1 _)
      have HA6_102 := hid ((HA6_101.out.far (j := 0) (Ne.symm HNE.out) (.int .i32 X)).far (j := 1) (Ne.symm HNE.out) (.int .i32 Y))
      have HK102 := hid ((HK101.out.other HA5_101.out (by decide) (by decide) (by decide) HG5.out (Nat.le_trans hnw HG5.out) 0 (.int .i32 X)).other (at_set HA5_101.out 0 (.int .i32 X)) (by decide) (by decide) (by decide) HG5.out (Nat.le_trans hnw HG5.out) 1 (.int .i32 Y))
      have HB102 := hid ((HB101.out.setCell (p := ⟨B5, 0, none⟩) HG5.out (.int .i32 X)).setCell (p := ⟨B5, 1, none⟩) HG5.out (.int .i32 Y))
      refine hKK.out _ _ HB102.out (fun hHeld => ?_)
      clear hKK K k0 k1 kf
      (try simp only [Act.put, pu1, pu2, pu3])
      generalize World.setCell (World.setCell u101 _ _) _ _ = u102 at HK102 HB102 HA5_102 HA6_102 hHeld ⊢
      refine wpAnyH_ready (rs := [19]) (by kernel_rfl) (by simp) ?_
      refine AllReadyH.cons (i := 19) rfl (fun K hKK => ?_) AllReadyH.nil
      obtain ⟨k0, k1⟩ := HA6_102.out.two
      have kf := HA6_102.out.frozen
      go_simp
      have HA6_103 : Hid (At ((u102.setCell ⟨B6, 0, none⟩ (.int .i32 U)).setCell ⟨B6, 1, none⟩ (.int .i32 V')) B6 #[.int .i32 U, .int .i32 V'] 27) := hid (at_set (at_set HA6_102.out 0 _) 1 _)
      have HA5_103 := hid ((HA5_102.out.far (j := 0) HNE.out (.int .i32 U)).far (j := 1) HNE.out (.int .i32 V'))
      have HK103 := hid ((HK102.out.other HA6_102.out (by decide) (by decide) (by decide) HG6.out (Nat.le_trans hnw HG6.out) 0 (.int .i32 U)).other (at_set HA6_102.out 0 (.int .i32 U)) (by decide) (by decide) (by decide) HG6.out (Nat.le_trans hnw HG6.out) 1 (.int .i32 V'))
      have HB103 := hid ((HB102.out.setCell (p := ⟨B6, 0, none⟩) HG6.out (.int .i32 U)).setCell (p := ⟨B6, 1, none⟩) HG6.out (.int .i32 V'))
      refine hKK.out _ _ HB103.out (fun hHeld => ?_)
      clear hKK K k0 k1 kf
      (try simp only [Act.put, pu1, pu2, pu3])
      generalize World.setCell (World.setCell u102 _ _) _ _ = u103 at HK103 HB103 HA5_103 HA6_103 hHeld ⊢
      refine wpAnyH_ready (rs := [20]) (by kernel_rfl) (by simp) ?_
      refine AllReadyH.cons (i := 20) rfl (fun K hKK => ?_) AllReadyH.nil
      go_simp
      have HK104 := HK103
      have HB104 := HB103
      have HA5_104 := HA5_103
      have HA6_104 := HA6_103
      refine hKK.out _ _ HB104.out (fun hHeld => ?_)
      clear hKK K
      (try simp only [Act.put, pu1, pu2, pu3])
      obtain ⟨u104, hu104⟩ : ∃ z, z = u103 := ⟨_, rfl⟩
      rw [← hu104] at HK104 HB104 HA5_104 HA6_104 hHeld ⊢
      clear hu104
      refine wpAnyH_ready (rs := [21]) (by kernel_rfl) (by simp) ?_
      refine AllReadyH.cons (i := 21) rfl (fun K hKK => ?_) AllReadyH.nil
      go_simp
      have HK105 := HK104
      have HB105 := HB104
      have HA5_105 := HA5_104
      have HA6_105 := HA6_104
      refine hKK.out _ _ HB105.out (fun hHeld => ?_)
      clear hKK K
      (try simp only [Act.put, pu1, pu2, pu3])
      obtain ⟨u105, hu105⟩ : ∃ z, z = u104 := ⟨_, rfl⟩
      rw [← hu105] at HK105 HB105 HA5_105 HA6_105 hHeld ⊢
      clear hu105
      refine wpAnyH_done (by kernel_rfl) ?_ _
      refine NoPanic.normal ?_
      go_wp2_with fail
      go_meet
      case rel => exact ⟨rfl, B5, B6, rfl, rfl, rfl, HK105.out, HA5_105.out, HA6_105.out⟩
    refine AllReadyH.cons (i := 17) rfl (fun K hKK => ?_) AllReadyH.nil
    go_simp
    have HA6_106 := hid (At.new u84 #[.int .i32 0, .int .i32 0] 27)
    have HK106 := hid (HK84.out.below (Ev.bal (Ev.br u84) (.cells #[.int .i32 0, .int .i32 0] 27)))
    have HB106 := hid (Ev.bal HB84.out (.cells #[.int .i32 0, .int .i32 0] 27))
    have HG6 := hid (show w.heap.size ≤ u84.heap.size from HB84.out.size)
    have HA5_106 := hid (HA5_84.out.more (.cells #[.int .i32 0, .int .i32 0] 27))
    have HN := hid (Nat.ne_of_lt HA5_84.out.lt)
    refine hKK.out _ _ HB106.out (fun hHeld => ?_)
    clear hKK K
    (try simp only [Act.put, pu1, pu2, pu3])
    generalize World.alloc u84 _ = u106 at HK106 HB106 HA6_106 HA5_106 hHeld ⊢
    generalize u84.heap.size = B6 at HA6_106 HG6 HN ⊢
    have HNE := hid (show B5 ≠ B6 from HN.out)
    refine wpAnyH_ready (rs := [8]) (by kernel_rfl) (by simp) ?_
    refine AllReadyH.cons (i := 8) rfl (fun K hKK => ?_) AllReadyH.nil
    go_simp
    (refine (HSl _).mono ?_)
    rintro e u107 ⟨rfl, g107⟩
    have HK107 := hid (HK106.out.below g107)
    have HB107 := hid (Ev.bt HB106.out g107)
    have HA5_107 := hid (HA5_106.out.below g107)
    have HA6_107 := hid (HA6_106.out.below g107)
    dsimp only
    refine hKK.out _ _ HB107.out (fun hHeld => ?_)
    clear hKK K
    (try simp only [Act.put, pu1, pu2, pu3])
    refine wpAnyH_ready (rs := [9]) (by kernel_rfl) (by simp) ?_
    refine AllReadyH.cons (i := 9) rfl (fun K hKK => ?_) AllReadyH.nil
    go_simp
    (refine (playersbox_c _).mono ?_)
    rintro e u108 ⟨rfl, g108⟩
    have HK108 := hid (HK107.out.below g108)
    have HB108 := hid (Ev.bt HB107.out g108)
    have HA5_108 := hid (HA5_107.out.below g108)
    have HA6_108 := hid (HA6_107.out.below g108)
    dsimp only
    refine hKK.out _ _ HB108.out (fun hHeld => ?_)
    clear hKK K
    (try simp only [Act.put, pu1, pu2, pu3])
    refine wpAnyH_ready (rs := [10]) (by kernel_rfl) (by simp) ?_
    refine AllReadyH.cons (i := 10) rfl (fun K hKK => ?_) AllReadyH.nil
    go_simp
    (refine (HMv _).mono ?_)
    rintro e u109 ⟨rfl, g109⟩
    have HK109 := hid (HK108.out.below g109)
    have HB109 := hid (Ev.bt HB108.out g109)
    have HA5_109 := hid (HA5_108.out.below g109)
    have HA6_109 := hid (HA6_108.out.below g109)
    dsimp only
    refine hKK.out _ _ HB109.out (fun hHeld => ?_)
    clear hKK K
    (try simp only [Act.put, pu1, pu2, pu3])
    (refine tk 11 15 ?_ rfl rfl (by kernel_rfl) (by rfl) ?_ (by assumption) ?_)
    rotate_left
    · (intro W hSW; go_simp; (try with_reducible rfl))
    simp only [Act.put, pu1, pu2, pu3]
    (refine tk 12 27 ?_ rfl rfl (by kernel_rfl) (by rfl) ?_ (by assumption) ?_)
    rotate_left
    · (intro W hSW; go_simp; (try with_reducible rfl))
    simp only [Act.put, pu1, pu2, pu3]
    (refine tk 13 28 ?_ rfl rfl (by kernel_rfl) (by rfl) ?_ (by assumption) ?_)
    rotate_left
    · (intro W hSW; go_simp; (try with_reducible rfl))
    simp only [Act.put, pu1, pu2, pu3]
    (refine tk 14 29 ?_ rfl rfl (by kernel_rfl) (by rfl) ?_ (by assumption) ?_)
    rotate_left
    · (intro W hSW; go_simp; (try with_reducible rfl))
    simp only [Act.put, pu1, pu2, pu3]
    (refine tk 15 30 ?_ rfl rfl (by kernel_rfl) (by rfl) ?_ (by assumption) ?_)
    rotate_left
    · (intro W hSW; go_simp; (try with_reducible rfl))
    simp only [Act.put, pu1, pu2, pu3]
    refine wpAnyH_ready (rs := [18]) (by kernel_rfl) (by simp) ?_
    refine AllReadyH.cons (i := 18) rfl (fun K hKK => ?_) AllReadyH.nil
    obtain ⟨k0, k1⟩ := HA5_109.out.two
    have kf := HA5_109.out.frozen
    go_simp
    have HA5_110 : Hid (At ((u109.setCell ⟨B5, 0, none⟩ (.int .i32 X)).setCell ⟨B5, 1, none⟩ (.int .i32 Y)) B5 #[.int .i32 X, .int .i32 Y] 27) := hid (at_set (at_set HA5_109.out 0 _) 1 _)
    have HA6_110 := hid ((HA6_109.out.far (j := 0) (Ne.symm HNE.out) (.int .i32 X)).far (j := 1) (Ne.symm HNE.out) (.int .i32 Y))
    have HK110 := hid ((HK109.out.other HA5_109.out (by decide) (by decide) (by decide) HG5.out (Nat.le_trans hnw HG5.out) 0 (.int .i32 X)).other (at_set HA5_109.out 0 (.int .i32 X)) (by decide) (by decide) (by decide) HG5.out (Nat.le_trans hnw HG5.out) 1 (.int .i32 Y))
    have HB110 := hid ((HB109.out.setCell (p := ⟨B5, 0, none⟩) HG5.out (.int .i32 X)).setCell (p := ⟨B5, 1, none⟩) HG5.out (.int .i32 Y))
    refine hKK.out _ _ HB110.out (fun hHeld => ?_)
    clear hKK K k0 k1 kf
    (try simp only [Act.put, pu1, pu2, pu3])
    generalize World.setCell (World.setCell u109 _ _) _ _ = u110 at HK110 HB110 HA5_110 HA6_110 hHeld ⊢
    refine wpAnyH_ready (rs := [19]) (by kernel_rfl) (by simp) ?_
    refine AllReadyH.cons (i := 19) rfl (fun K hKK => ?_) AllReadyH.nil
    obtain ⟨k0, k1⟩ := HA6_110.out.two
    have kf := HA6_110.out.frozen
    go_simp
    have HA6_111 : Hid (At ((u110.setCell ⟨B6, 0, none⟩ (.int .i32 U)).setCell ⟨B6, 1, none⟩ (.int .i32 V')) B6 #[.int .i32 U, .int .i32 V'] 27) := hid (at_set (at_set HA6_110.out 0 _) 1 _)
    have HA5_111 := hid ((HA5_110.out.far (j := 0) HNE.out (.int .i32 U)).far (j := 1) HNE.out (.int .i32 V'))
    have HK111 := hid ((HK110.out.other HA6_110.out (by decide) (by decide) (by decide) HG6.out (Nat.le_trans hnw HG6.out) 0 (.int .i32 U)).other (at_set HA6_110.out 0 (.int .i32 U)) (by decide) (by decide) (by decide) HG6.out (Nat.le_trans hnw HG6.out) 1 (.int .i32 V'))
    have HB111 := hid ((HB110.out.setCell (p := ⟨B6, 0, none⟩) HG6.out (.int .i32 U)).setCell (p := ⟨B6, 1, none⟩) HG6.out (.int .i32 V'))
    refine hKK.out _ _ HB111.out (fun hHeld => ?_)
    clear hKK K k0 k1 kf
    (try simp only [Act.put, pu1, pu2, pu3])
    generalize World.setCell (World.setCell u110 _ _) _ _ = u111 at HK111 HB111 HA5_111 HA6_111 hHeld ⊢
    refine wpAnyH_ready (rs := [20]) (by kernel_rfl) (by simp) ?_
    refine AllReadyH.cons (i := 20) rfl (fun K hKK => ?_) AllReadyH.nil
    go_simp
    have HK112 := HK111
    have HB112 := HB111
    have HA5_112 := HA5_111
    have HA6_112 := HA6_111
    refine hKK.out _ _ HB112.out (fun hHeld => ?_)
    clear hKK K
    (try simp only [Act.put, pu1, pu2, pu3])
    obtain ⟨u112, hu112⟩ : ∃ z, z = u111 := ⟨_, rfl⟩
    rw [← hu112] at HK112 HB112 HA5_112 HA6_112 hHeld ⊢
    clear hu112
    refine wpAnyH_ready (rs := [21]) (by kernel_rfl) (by simp) ?_
    refine AllReadyH.cons (i := 21) rfl (fun K hKK => ?_) AllReadyH.nil
    go_simp
    have HK113 := HK112
    have HB113 := HB112
    have HA5_113 := HA5_112
    have HA6_113 := HA6_112
    refine hKK.out _ _ HB113.out (fun hHeld => ?_)
    clear hKK K
    (try simp only [Act.put, pu1, pu2, pu3])
    obtain ⟨u113, hu113⟩ : ∃ z, z = u112 := ⟨_, rfl⟩
    rw [← hu113] at HK113 HB113 HA5_113 HA6_113 hHeld ⊢
    clear hu113
    refine wpAnyH_done (by kernel_rfl) ?_ _
    refine NoPanic.normal ?_
    go_wp2_with fail
    go_meet
    case rel => exact ⟨rfl, B5, B6, rfl, rfl, rfl, HK113.out, HA5_113.out, HA6_113.out⟩
  refine AllReadyH.cons (i := 17) rfl (fun K hKK => ?_) AllReadyH.nil
  go_simp
  have HA6_114 := hid (At.new u0 #[.int .i32 0, .int .i32 0] 27)
  have HK114 := hid (HK0.out.below (Ev.bal (Ev.br u0) (.cells #[.int .i32 0, .int .i32 0] 27)))
  have HB114 := hid (Ev.bal HB0.out (.cells #[.int .i32 0, .int .i32 0] 27))
  have HG6 := hid (show w.heap.size ≤ u0.heap.size from HB0.out.size)
  refine hKK.out _ _ HB114.out (fun hHeld => ?_)
  clear hKK K
  (try simp only [Act.put, pu1, pu2, pu3])
  generalize World.alloc u0 _ = u114 at HK114 HB114 HA6_114 hHeld ⊢
  generalize u0.heap.size = B6 at HA6_114 HG6 ⊢
  refine wpAnyH_ready (rs := [8, 16]) (by kernel_rfl) (by simp) ?_
  refine AllReadyH.cons (i := 8) rfl (fun K hKK => ?_) ?_
  · go_simp
    (refine (HSl _).mono ?_)
    rintro e u115 ⟨rfl, g115⟩
    have HK115 := hid (HK114.out.below g115)
    have HB115 := hid (Ev.bt HB114.out g115)
    have HA6_115 := hid (HA6_114.out.below g115)
    dsimp only
    refine hKK.out _ _ HB115.out (fun hHeld => ?_)
    clear hKK K
    (try simp only [Act.put, pu1, pu2, pu3])
    refine wpAnyH_ready (rs := [9, 16]) (by kernel_rfl) (by simp) ?_
    refine AllReadyH.cons (i := 9) rfl (fun K hKK => ?_) ?_
    · go_simp
      (refine (playersbox_c _).mono ?_)
      rintro e u116 ⟨rfl, g116⟩
      have HK116 := hid (HK115.out.below g116)
      have HB116 := hid (Ev.bt HB115.out g116)
      have HA6_116 := hid (HA6_115.out.below g116)
      dsimp only
      refine hKK.out _ _ HB116.out (fun hHeld => ?_)
      clear hKK K
      (try simp only [Act.put, pu1, pu2, pu3])
      refine wpAnyH_ready (rs := [10, 16]) (by kernel_rfl) (by simp) ?_
      refine AllReadyH.cons (i := 10) rfl (fun K hKK => ?_) ?_
      · go_simp
        (refine (HMv _).mono ?_)
        rintro e u117 ⟨rfl, g117⟩
        have HK117 := hid (HK116.out.below g117)
        have HB117 := hid (Ev.bt HB116.out g117)
        have HA6_117 := hid (HA6_116.out.below g117)
        dsimp only
        refine hKK.out _ _ HB117.out (fun hHeld => ?_)
        clear hKK K
        (try simp only [Act.put, pu1, pu2, pu3])
        (refine tk 11 15 ?_ rfl rfl (by kernel_rfl) (by rfl) ?_ (by assumption) ?_)
        rotate_left
        · (intro W hSW; go_simp; (try with_reducible rfl))
        simp only [Act.put, pu1, pu2, pu3]
        (refine tk 12 27 ?_ rfl rfl (by kernel_rfl) (by rfl) ?_ (by assumption) ?_)
        rotate_left
        · (intro W hSW; go_simp; (try with_reducible rfl))
        simp only [Act.put, pu1, pu2, pu3]
        (refine tk 13 28 ?_ rfl rfl (by kernel_rfl) (by rfl) ?_ (by assumption) ?_)
        rotate_left
        · (intro W hSW; go_simp; (try with_reducible rfl))
        simp only [Act.put, pu1, pu2, pu3]
        (refine tk 14 29 ?_ rfl rfl (by kernel_rfl) (by rfl) ?_ (by assumption) ?_)
        rotate_left
        · (intro W hSW; go_simp; (try with_reducible rfl))
        simp only [Act.put, pu1, pu2, pu3]
        (refine tk 15 30 ?_ rfl rfl (by kernel_rfl) (by rfl) ?_ (by assumption) ?_)
        rotate_left
        · (intro W hSW; go_simp; (try with_reducible rfl))
        simp only [Act.put, pu1, pu2, pu3]
        refine wpAnyH_ready (rs := [16]) (by kernel_rfl) (by simp) ?_
        refine AllReadyH.cons (i := 16) rfl (fun K hKK => ?_) AllReadyH.nil
        go_simp
        have HA5_118 := hid (At.new u117 #[.int .i32 0, .int .i32 0] 27)
        have HK118 := hid (HK117.out.below (Ev.bal (Ev.br u117) (.cells #[.int .i32 0, .int .i32 0] 27)))
        have HB118 := hid (Ev.bal HB117.out (.cells #[.int .i32 0, .int .i32 0] 27))
        have HG5 := hid (show w.heap.size ≤ u117.heap.size from HB117.out.size)
        have HA6_118 := hid (HA6_117.out.more (.cells #[.int .i32 0, .int .i32 0] 27))
        have HN := hid (Nat.ne_of_lt HA6_117.out.lt)
        refine hKK.out _ _ HB118.out (fun hHeld => ?_)
        clear hKK K
        (try simp only [Act.put, pu1, pu2, pu3])
        generalize World.alloc u117 _ = u118 at HK118 HB118 HA5_118 HA6_118 hHeld ⊢
        generalize u117.heap.size = B5 at HA5_118 HG5 HN ⊢
        have HNE := hid (show B5 ≠ B6 from Ne.symm HN.out)
        refine wpAnyH_ready (rs := [18]) (by kernel_rfl) (by simp) ?_
        refine AllReadyH.cons (i := 18) rfl (fun K hKK => ?_) AllReadyH.nil
        obtain ⟨k0, k1⟩ := HA5_118.out.two
        have kf := HA5_118.out.frozen
        go_simp
        have HA5_119 : Hid (At ((u118.setCell ⟨B5, 0, none⟩ (.int .i32 X)).setCell ⟨B5, 1, none⟩ (.int .i32 Y)) B5 #[.int .i32 X, .int .i32 Y] 27) := hid (at_set (at_set HA5_118.out 0 _) 1 _)
        have HA6_119 := hid ((HA6_118.out.far (j := 0) (Ne.symm HNE.out) (.int .i32 X)).far (j := 1) (Ne.symm HNE.out) (.int .i32 Y))
        have HK119 := hid ((HK118.out.other HA5_118.out (by decide) (by decide) (by decide) HG5.out (Nat.le_trans hnw HG5.out) 0 (.int .i32 X)).other (at_set HA5_118.out 0 (.int .i32 X)) (by decide) (by decide) (by decide) HG5.out (Nat.le_trans hnw HG5.out) 1 (.int .i32 Y))
        have HB119 := hid ((HB118.out.setCell (p := ⟨B5, 0, none⟩) HG5.out (.int .i32 X)).setCell (p := ⟨B5, 1, none⟩) HG5.out (.int .i32 Y))
        refine hKK.out _ _ HB119.out (fun hHeld => ?_)
        clear hKK K k0 k1 kf
        (try simp only [Act.put, pu1, pu2, pu3])
        generalize World.setCell (World.setCell u118 _ _) _ _ = u119 at HK119 HB119 HA5_119 HA6_119 hHeld ⊢
        refine wpAnyH_ready (rs := [19]) (by kernel_rfl) (by simp) ?_
        refine AllReadyH.cons (i := 19) rfl (fun K hKK => ?_) AllReadyH.nil
        obtain ⟨k0, k1⟩ := HA6_119.out.two
        have kf := HA6_119.out.frozen
        go_simp
        have HA6_120 : Hid (At ((u119.setCell ⟨B6, 0, none⟩ (.int .i32 U)).setCell ⟨B6, 1, none⟩ (.int .i32 V')) B6 #[.int .i32 U, .int .i32 V'] 27) := hid (at_set (at_set HA6_119.out 0 _) 1 _)
        have HA5_120 := hid ((HA5_119.out.far (j := 0) HNE.out (.int .i32 U)).far (j := 1) HNE.out (.int .i32 V'))
        have HK120 := hid ((HK119.out.other HA6_119.out (by decide) (by decide) (by decide) HG6.out (Nat.le_trans hnw HG6.out) 0 (.int .i32 U)).other (at_set HA6_119.out 0 (.int .i32 U)) (by decide) (by decide) (by decide) HG6.out (Nat.le_trans hnw HG6.out) 1 (.int .i32 V'))
        have HB120 := hid ((HB119.out.setCell (p := ⟨B6, 0, none⟩) HG6.out (.int .i32 U)).setCell (p := ⟨B6, 1, none⟩) HG6.out (.int .i32 V'))
        refine hKK.out _ _ HB120.out (fun hHeld => ?_)
        clear hKK K k0 k1 kf
        (try simp only [Act.put, pu1, pu2, pu3])
        generalize World.setCell (World.setCell u119 _ _) _ _ = u120 at HK120 HB120 HA5_120 HA6_120 hHeld ⊢
        refine wpAnyH_ready (rs := [20]) (by kernel_rfl) (by simp) ?_
        refine AllReadyH.cons (i := 20) rfl (fun K hKK => ?_) AllReadyH.nil
        go_simp
        have HK121 := HK120
        have HB121 := HB120
        have HA6_121 := HA6_120
        have HA5_121 := HA5_120
        refine hKK.out _ _ HB121.out (fun hHeld => ?_)
        clear hKK K
        (try simp only [Act.put, pu1, pu2, pu3])
        obtain ⟨u121, hu121⟩ : ∃ z, z = u120 := ⟨_, rfl⟩
        rw [← hu121] at HK121 HB121 HA5_121 HA6_121 hHeld ⊢
        clear hu121
        refine wpAnyH_ready (rs := [21]) (by kernel_rfl) (by simp) ?_
        refine AllReadyH.cons (i := 21) rfl (fun K hKK => ?_) AllReadyH.nil
        go_simp
        have HK122 := HK121
        have HB122 := HB121
        have HA6_122 := HA6_121
        have HA5_122 := HA5_121
        refine hKK.out _ _ HB122.out (fun hHeld => ?_)
        clear hKK K
        (try simp only [Act.put, pu1, pu2, pu3])
        obtain ⟨u122, hu122⟩ : ∃ z, z = u121 := ⟨_, rfl⟩
        rw [← hu122] at HK122 HB122 HA5_122 HA6_122 hHeld ⊢
        clear hu122
        refine wpAnyH_done (by kernel_rfl) ?_ _
        refine NoPanic.normal ?_
        go_wp2_with fail
        go_meet
        case rel => exact ⟨rfl, B5, B6, rfl, rfl, rfl, HK122.out, HA5_122.out, HA6_122.out⟩
      refine AllReadyH.cons (i := 16) rfl (fun K hKK => ?_) AllReadyH.nil
      go_simp
      have HA5_123 := hid (At.new u116 #[.int .i32 0, .int .i32 0] 27)
      have HK123 := hid (HK116.out.below (Ev.bal (Ev.br u116) (.cells #[.int .i32 0, .int .i32 0] 27)))
      have HB123 := hid (Ev.bal HB116.out (.cells #[.int .i32 0, .int .i32 0] 27))
      have HG5 := hid (show w.heap.size ≤ u116.heap.size from HB116.out.size)
      have HA6_123 := hid (HA6_116.out.more (.cells #[.int .i32 0, .int .i32 0] 27))
      have HN := hid (Nat.ne_of_lt HA6_116.out.lt)
      refine hKK.out _ _ HB123.out (fun hHeld => ?_)
      clear hKK K
      (try simp only [Act.put, pu1, pu2, pu3])
      generalize World.alloc u116 _ = u123 at HK123 HB123 HA5_123 HA6_123 hHeld ⊢
      generalize u116.heap.size = B5 at HA5_123 HG5 HN ⊢
      have HNE := hid (show B5 ≠ B6 from Ne.symm HN.out)
      refine wpAnyH_ready (rs := [10]) (by kernel_rfl) (by simp) ?_
      refine AllReadyH.cons (i := 10) rfl (fun K hKK => ?_) AllReadyH.nil
      go_simp
      (refine (HMv _).mono ?_)
      rintro e u124 ⟨rfl, g124⟩
      have HK124 := hid (HK123.out.below g124)
      have HB124 := hid (Ev.bt HB123.out g124)
      have HA6_124 := hid (HA6_123.out.below g124)
      have HA5_124 := hid (HA5_123.out.below g124)
      dsimp only
      refine hKK.out _ _ HB124.out (fun hHeld => ?_)
      clear hKK K
      (try simp only [Act.put, pu1, pu2, pu3])
      (refine tk 11 15 ?_ rfl rfl (by kernel_rfl) (by rfl) ?_ (by assumption) ?_)
      rotate_left
      · (intro W hSW; go_simp; (try with_reducible rfl))
      simp only [Act.put, pu1, pu2, pu3]
      (refine tk 12 27 ?_ rfl rfl (by kernel_rfl) (by rfl) ?_ (by assumption) ?_)
      rotate_left
      · (intro W hSW; go_simp; (try with_reducible rfl))
      simp only [Act.put, pu1, pu2, pu3]
      (refine tk 13 28 ?_ rfl rfl (by kernel_rfl) (by rfl) ?_ (by assumption) ?_)
      rotate_left
      · (intro W hSW; go_simp; (try with_reducible rfl))
      simp only [Act.put, pu1, pu2, pu3]
      (refine tk 14 29 ?_ rfl rfl (by kernel_rfl) (by rfl) ?_ (by assumption) ?_)
      rotate_left
      · (intro W hSW; go_simp; (try with_reducible rfl))
      simp only [Act.put, pu1, pu2, pu3]
      (refine tk 15 30 ?_ rfl rfl (by kernel_rfl) (by rfl) ?_ (by assumption) ?_)
      rotate_left
      · (intro W hSW; go_simp; (try with_reducible rfl))
      simp only [Act.put, pu1, pu2, pu3]
      refine wpAnyH_ready (rs := [18]) (by kernel_rfl) (by simp) ?_
      refine AllReadyH.cons (i := 18) rfl (fun K hKK => ?_) AllReadyH.nil
      obtain ⟨k0, k1⟩ := HA5_124.out.two
      have kf := HA5_124.out.frozen
      go_simp
      have HA5_125 : Hid (At ((u124.setCell ⟨B5, 0, none⟩ (.int .i32 X)).setCell ⟨B5, 1, none⟩ (.int .i32 Y)) B5 #[.int .i32 X, .int .i32 Y] 27) := hid (at_set (at_set HA5_124.out 0 _) 1 _)
      have HA6_125 := hid ((HA6_124.out.far (j := 0) (Ne.symm HNE.out) (.int .i32 X)).far (j := 1) (Ne.symm HNE.out) (.int .i32 Y))
      have HK125 := hid ((HK124.out.other HA5_124.out (by decide) (by decide) (by decide) HG5.out (Nat.le_trans hnw HG5.out) 0 (.int .i32 X)).other (at_set HA5_124.out 0 (.int .i32 X)) (by decide) (by decide) (by decide) HG5.out (Nat.le_trans hnw HG5.out) 1 (.int .i32 Y))
      have HB125 := hid ((HB124.out.setCell (p := ⟨B5, 0, none⟩) HG5.out (.int .i32 X)).setCell (p := ⟨B5, 1, none⟩) HG5.out (.int .i32 Y))
      refine hKK.out _ _ HB125.out (fun hHeld => ?_)
      clear hKK K k0 k1 kf
      (try simp only [Act.put, pu1, pu2, pu3])
      generalize World.setCell (World.setCell u124 _ _) _ _ = u125 at HK125 HB125 HA5_125 HA6_125 hHeld ⊢
      refine wpAnyH_ready (rs := [19]) (by kernel_rfl) (by simp) ?_
      refine AllReadyH.cons (i := 19) rfl (fun K hKK => ?_) AllReadyH.nil
      obtain ⟨k0, k1⟩ := HA6_125.out.two
      have kf := HA6_125.out.frozen
      go_simp
      have HA6_126 : Hid (At ((u125.setCell ⟨B6, 0, none⟩ (.int .i32 U)).setCell ⟨B6, 1, none⟩ (.int .i32 V')) B6 #[.int .i32 U, .int .i32 V'] 27) := hid (at_set (at_set HA6_125.out 0 _) 1 _)
      have HA5_126 := hid ((HA5_125.out.far (j := 0) HNE.out (.int .i32 U)).far (j := 1) HNE.out (.int .i32 V'))
      have HK126 := hid ((HK125.out.other HA6_125.out (by decide) (by decide) (by decide) HG6.out (Nat.le_trans hnw HG6.out) 0 (.int .i32 U)).other (at_set HA6_125.out 0 (.int .i32 U)) (by decide) (by decide) (by decide) HG6.out (Nat.le_trans hnw HG6.out) 1 (.int .i32 V'))
      have HB126 := hid ((HB125.out.setCell (p := ⟨B6, 0, none⟩) HG6.out (.int .i32 U)).setCell (p := ⟨B6, 1, none⟩) HG6.out (.int .i32 V'))
      refine hKK.out _ _ HB126.out (fun hHeld => ?_)
      clear hKK K k0 k1 kf
      (try simp only [Act.put, pu1, pu2, pu3])
      generalize World.setCell (World.setCell u125 _ _) _ _ = u126 at HK126 HB126 HA5_126 HA6_126 hHeld ⊢
      refine wpAnyH_ready (rs := [20]) (by kernel_rfl) (by simp) ?_
      refine AllReadyH.cons (i := 20) rfl (fun K hKK => ?_) AllReadyH.nil
      go_simp
      have HK127 := HK126
      have HB127 := HB126
      have HA6_127 := HA6_126
      have HA5_127 := HA5_126
      refine hKK.out _ _ HB127.out (fun hHeld => ?_)
      clear hKK K
      (try simp only [Act.put, pu1, pu2, pu3])
      obtain ⟨u127, hu127⟩ : ∃ z, z = u126 := ⟨_, rfl⟩
      rw [← hu127] at HK127 HB127 HA5_127 HA6_127 hHeld ⊢
      clear hu127
      refine wpAnyH_ready (rs := [21]) (by kernel_rfl) (by simp) ?_
      refine AllReadyH.cons (i := 21) rfl (fun K hKK => ?_) AllReadyH.nil
      go_simp
      have HK128 := HK127
      have HB128 := HB127
      have HA6_128 := HA6_127
      have HA5_128 := HA5_127
      refine hKK.out _ _ HB128.out (fun hHeld => ?_)
      clear hKK K
      (try simp only [Act.put, pu1, pu2, pu3])
      obtain ⟨u128, hu128⟩ : ∃ z, z = u127 := ⟨_, rfl⟩
      rw [← hu128] at HK128 HB128 HA5_128 HA6_128 hHeld ⊢
      clear hu128
      refine wpAnyH_done (by kernel_rfl) ?_ _
      refine NoPanic.normal ?_
      go_wp2_with fail
      go_meet
      case rel => exact ⟨rfl, B5, B6, rfl, rfl, rfl, HK128.out, HA5_128.out, HA6_128.out⟩
    refine AllReadyH.cons (i := 16) rfl (fun K hKK => ?_) AllReadyH.nil
    go_simp
    have HA5_129 := hid (At.new u115 #[.int .i32 0, .int .i32 0] 27)
    have HK129 := hid (HK115.out.below (Ev.bal (Ev.br u115) (.cells #[.int .i32 0, .int .i32 0] 27)))
    have HB129 := hid (Ev.bal HB115.out (.cells #[.int .i32 0, .int .i32 0] 27))
    have HG5 := hid (show w.heap.size ≤ u115.heap.size from HB115.out.size)
    have HA6_129 := hid (HA6_115.out.more (.cells #[.int .i32 0, .int .i32 0] 27))
    have HN := hid (Nat.ne_of_lt HA6_115.out.lt)
    refine hKK.out _ _ HB129.out (fun hHeld => ?_)
    clear hKK K
    (try simp only [Act.put, pu1, pu2, pu3])
    generalize World.alloc u115 _ = u129 at HK129 HB129 HA5_129 HA6_129 hHeld ⊢
    generalize u115.heap.size = B5 at HA5_129 HG5 HN ⊢
    have HNE := hid (show B5 ≠ B6 from Ne.symm HN.out)
    refine wpAnyH_ready (rs := [9]) (by kernel_rfl) (by simp) ?_
    refine AllReadyH.cons (i := 9) rfl (fun K hKK => ?_) AllReadyH.nil
    go_simp
    (refine (playersbox_c _).mono ?_)
    rintro e u130 ⟨rfl, g130⟩
    have HK130 := hid (HK129.out.below g130)
    have HB130 := hid (Ev.bt HB129.out g130)
    have HA6_130 := hid (HA6_129.out.below g130)
    have HA5_130 := hid (HA5_129.out.below g130)
    dsimp only
    refine hKK.out _ _ HB130.out (fun hHeld => ?_)
    clear hKK K
    (try simp only [Act.put, pu1, pu2, pu3])
    refine wpAnyH_ready (rs := [10]) (by kernel_rfl) (by simp) ?_
    refine AllReadyH.cons (i := 10) rfl (fun K hKK => ?_) AllReadyH.nil
    go_simp
    (refine (HMv _).mono ?_)
    rintro e u131 ⟨rfl, g131⟩
    have HK131 := hid (HK130.out.below g131)
    have HB131 := hid (Ev.bt HB130.out g131)
    have HA6_131 := hid (HA6_130.out.below g131)
    have HA5_131 := hid (HA5_130.out.below g131)
    dsimp only
    refine hKK.out _ _ HB131.out (fun hHeld => ?_)
    clear hKK K
    (try simp only [Act.put, pu1, pu2, pu3])
    (refine tk 11 15 ?_ rfl rfl (by kernel_rfl) (by rfl) ?_ (by assumption) ?_)
    rotate_left
    · (intro W hSW; go_simp; (try with_reducible rfl))
    simp only [Act.put, pu1, pu2, pu3]
    (refine tk 12 27 ?_ rfl rfl (by kernel_rfl) (by rfl) ?_ (by assumption) ?_)
    rotate_left
    · (intro W hSW; go_simp; (try with_reducible rfl))
    simp only [Act.put, pu1, pu2, pu3]
    (refine tk 13 28 ?_ rfl rfl (by kernel_rfl) (by rfl) ?_ (by assumption) ?_)
    rotate_left
    · (intro W hSW; go_simp; (try with_reducible rfl))
    simp only [Act.put, pu1, pu2, pu3]
    (refine tk 14 29 ?_ rfl rfl (by kernel_rfl) (by rfl) ?_ (by assumption) ?_)
    rotate_left
    · (intro W hSW; go_simp; (try with_reducible rfl))
    simp only [Act.put, pu1, pu2, pu3]
    (refine tk 15 30 ?_ rfl rfl (by kernel_rfl) (by rfl) ?_ (by assumption) ?_)
    rotate_left
    · (intro W hSW; go_simp; (try with_reducible rfl))
    simp only [Act.put, pu1, pu2, pu3]
    refine wpAnyH_ready (rs := [18]) (by kernel_rfl) (by simp) ?_
    refine AllReadyH.cons (i := 18) rfl (fun K hKK => ?_) AllReadyH.nil
    obtain ⟨k0, k1⟩ := HA5_131.out.two
    have kf := HA5_131.out.frozen
    go_simp
    have HA5_132 : Hid (At ((u131.setCell ⟨B5, 0, none⟩ (.int .i32 X)).setCell ⟨B5, 1, none⟩ (.int .i32 Y)) B5 #[.int .i32 X, .int .i32 Y] 27) := hid (at_set (at_set HA5_131.out 0 _) 1 _)
    have HA6_132 := hid ((HA6_131.out.far (j := 0) (Ne.symm HNE.out) (.int .i32 X)).far (j := 1) (Ne.symm HNE.out) (.int .i32 Y))
    have HK132 := hid ((HK131.out.other HA5_131.out (by decide) (by decide) (by decide) HG5.out (Nat.le_trans hnw HG5.out) 0 (.int .i32 X)).other (at_set HA5_131.out 0 (.int .i32 X)) (by decide) (by decide) (by decide) HG5.out (Nat.le_trans hnw HG5.out) 1 (.int .i32 Y))
    have HB132 := hid ((HB131.out.setCell (p := ⟨B5, 0, none⟩) HG5.out (.int .i32 X)).setCell (p := ⟨B5, 1, none⟩) HG5.out (.int .i32 Y))
    refine hKK.out _ _ HB132.out (fun hHeld => ?_)
    clear hKK K k0 k1 kf
    (try simp only [Act.put, pu1, pu2, pu3])
    generalize World.setCell (World.setCell u131 _ _) _ _ = u132 at HK132 HB132 HA5_132 HA6_132 hHeld ⊢
    refine wpAnyH_ready (rs := [19]) (by kernel_rfl) (by simp) ?_
    refine AllReadyH.cons (i := 19) rfl (fun K hKK => ?_) AllReadyH.nil
    obtain ⟨k0, k1⟩ := HA6_132.out.two
    have kf := HA6_132.out.frozen
    go_simp
    have HA6_133 : Hid (At ((u132.setCell ⟨B6, 0, none⟩ (.int .i32 U)).setCell ⟨B6, 1, none⟩ (.int .i32 V')) B6 #[.int .i32 U, .int .i32 V'] 27) := hid (at_set (at_set HA6_132.out 0 _) 1 _)
    have HA5_133 := hid ((HA5_132.out.far (j := 0) HNE.out (.int .i32 U)).far (j := 1) HNE.out (.int .i32 V'))
    have HK133 := hid ((HK132.out.other HA6_132.out (by decide) (by decide) (by decide) HG6.out (Nat.le_trans hnw HG6.out) 0 (.int .i32 U)).other (at_set HA6_132.out 0 (.int .i32 U)) (by decide) (by decide) (by decide) HG6.out (Nat.le_trans hnw HG6.out) 1 (.int .i32 V'))
    have HB133 := hid ((HB132.out.setCell (p := ⟨B6, 0, none⟩) HG6.out (.int .i32 U)).setCell (p := ⟨B6, 1, none⟩) HG6.out (.int .i32 V'))
    refine hKK.out _ _ HB133.out (fun hHeld => ?_)
    clear hKK K k0 k1 kf
    (try simp only [Act.put, pu1, pu2, pu3])
    generalize World.setCell (World.setCell u132 _ _) _ _ = u133 at HK133 HB133 HA5_133 HA6_133 hHeld ⊢
    refine wpAnyH_ready (rs := [20]) (by kernel_rfl) (by simp) ?_
    refine AllReadyH.cons (i := 20) rfl (fun K hKK => ?_) AllReadyH.nil
    go_simp
    have HK134 := HK133
    have HB134 := HB133
    have HA6_134 := HA6_133
    have HA5_134 := HA5_133
    refine hKK.out _ _ HB134.out (fun hHeld => ?_)
    clear hKK K
    (try simp only [Act.put, pu1, pu2, pu3])
    obtain ⟨u134, hu134⟩ : ∃ z, z = u133 := ⟨_, rfl⟩
    rw [← hu134] at HK134 HB134 HA5_134 HA6_134 hHeld ⊢
    clear hu134
    refine wpAnyH_ready (rs := [21]) (by kernel_rfl) (by simp) ?_
    refine AllReadyH.cons (i := 21) rfl (fun K hKK => ?_) AllReadyH.nil
    go_simp
    have HK135 := HK134
    have HB135 := HB134
    have HA6_135 := HA6_134
    have HA5_135 := HA5_134
    refine hKK.out _ _ HB135.out (fun hHeld => ?_)
    clear hKK K
    (try simp only [Act.put, pu1, pu2, pu3])
    obtain ⟨u135, hu135⟩ : ∃ z, z = u134 := ⟨_, rfl⟩
    rw [← hu135] at HK135 HB135 HA5_135 HA6_135 hHeld ⊢
    clear hu135
    refine wpAnyH_done (by kernel_rfl) ?_ _
    refine NoPanic.normal ?_
    go_wp2_with fail
    go_meet
    case rel => exact ⟨rfl, B5, B6, rfl, rfl, rfl, HK135.out, HA5_135.out, HA6_135.out⟩
  refine AllReadyH.cons (i := 16) rfl (fun K hKK => ?_) AllReadyH.nil
  go_simp
  have HA5_136 := hid (At.new u114 #[.int .i32 0, .int .i32 0] 27)
  have HK136 := hid (HK114.out.below (Ev.bal (Ev.br u114) (.cells #[.int .i32 0, .int .i32 0] 27)))
  have HB136 := hid (Ev.bal HB114.out (.cells #[.int .i32 0, .int .i32 0] 27))
  have HG5 := hid (show w.heap.size ≤ u114.heap.size from HB114.out.size)
  have HA6_136 := hid (HA6_114.out.more (.cells #[.int .i32 0, .int .i32 0] 27))
  have HN := hid (Nat.ne_of_lt HA6_114.out.lt)
  refine hKK.out _ _ HB136.out (fun hHeld => ?_)
  clear hKK K
  (try simp only [Act.put, pu1, pu2, pu3])
  generalize World.alloc u114 _ = u136 at HK136 HB136 HA5_136 HA6_136 hHeld ⊢
  generalize u114.heap.size = B5 at HA5_136 HG5 HN ⊢
  have HNE := hid (show B5 ≠ B6 from Ne.symm HN.out)
  refine wpAnyH_ready (rs := [8]) (by kernel_rfl) (by simp) ?_
  refine AllReadyH.cons (i := 8) rfl (fun K hKK => ?_) AllReadyH.nil
  go_simp
  (refine (HSl _).mono ?_)
  rintro e u137 ⟨rfl, g137⟩
  have HK137 := hid (HK136.out.below g137)
  have HB137 := hid (Ev.bt HB136.out g137)
  have HA6_137 := hid (HA6_136.out.below g137)
  have HA5_137 := hid (HA5_136.out.below g137)
  dsimp only
  refine hKK.out _ _ HB137.out (fun hHeld => ?_)
  clear hKK K
  (try simp only [Act.put, pu1, pu2, pu3])
  refine wpAnyH_ready (rs := [9]) (by kernel_rfl) (by simp) ?_
  refine AllReadyH.cons (i := 9) rfl (fun K hKK => ?_) AllReadyH.nil
  go_simp
  (refine (playersbox_c _).mono ?_)
  rintro e u138 ⟨rfl, g138⟩
  have HK138 := hid (HK137.out.below g138)
  have HB138 := hid (Ev.bt HB137.out g138)
  have HA6_138 := hid (HA6_137.out.below g138)
  have HA5_138 := hid (HA5_137.out.below g138)
  dsimp only
  refine hKK.out _ _ HB138.out (fun hHeld => ?_)
  clear hKK K
  (try simp only [Act.put, pu1, pu2, pu3])
  refine wpAnyH_ready (rs := [10]) (by kernel_rfl) (by simp) ?_
  refine AllReadyH.cons (i := 10) rfl (fun K hKK => ?_) AllReadyH.nil
  go_simp
  (refine (HMv _).mono ?_)
  rintro e u139 ⟨rfl, g139⟩
  have HK139 := hid (HK138.out.below g139)
  have HB139 := hid (Ev.bt HB138.out g139)
  have HA6_139 := hid (HA6_138.out.below g139)
  have HA5_139 := hid (HA5_138.out.below g139)
  dsimp only
  refine hKK.out _ _ HB139.out (fun hHeld => ?_)
  clear hKK K
  (try simp only [Act.put, pu1, pu2, pu3])
  (refine tk 11 15 ?_ rfl rfl (by kernel_rfl) (by rfl) ?_ (by assumption) ?_)
  rotate_left
  · (intro W hSW; go_simp; (try with_reducible rfl))
  simp only [Act.put, pu1, pu2, pu3]
  (refine tk 12 27 ?_ rfl rfl (by kernel_rfl) (by rfl) ?_ (by assumption) ?_)
  rotate_left
  · (intro W hSW; go_simp; (try with_reducible rfl))
  simp only [Act.put, pu1, pu2, pu3]
  (refine tk 13 28 ?_ rfl rfl (by kernel_rfl) (by rfl) ?_ (by assumption) ?_)
  rotate_left
  · (intro W hSW; go_simp; (try with_reducible rfl))
  simp only [Act.put, pu1, pu2, pu3]
  (refine tk 14 29 ?_ rfl rfl (by kernel_rfl) (by rfl) ?_ (by assumption) ?_)
  rotate_left
  · (intro W hSW; go_simp; (try with_reducible rfl))
  simp only [Act.put, pu1, pu2, pu3]
  (refine tk 15 30 ?_ rfl rfl (by kernel_rfl) (by rfl) ?_ (by assumption) ?_)
  rotate_left
  · (intro W hSW; go_simp; (try with_reducible rfl))
  simp only [Act.put, pu1, pu2, pu3]
  refine wpAnyH_ready (rs := [18]) (by kernel_rfl) (by simp) ?_
  refine AllReadyH.cons (i := 18) rfl (fun K hKK => ?_) AllReadyH.nil
  obtain ⟨k0, k1⟩ := HA5_139.out.two
  have kf := HA5_139.out.frozen
  go_simp
  have HA5_140 : Hid (At ((u139.setCell ⟨B5, 0, none⟩ (.int .i32 X)).setCell ⟨B5, 1, none⟩ (.int .i32 Y)) B5 #[.int .i32 X, .int .i32 Y] 27) := hid (at_set (at_set HA5_139.out 0 _) 1 _)
  have HA6_140 := hid ((HA6_139.out.far (j := 0) (Ne.symm HNE.out) (.int .i32 X)).far (j := 1) (Ne.symm HNE.out) (.int .i32 Y))
  have HK140 := hid ((HK139.out.other HA5_139.out (by decide) (by decide) (by decide) HG5.out (Nat.le_trans hnw HG5.out) 0 (.int .i32 X)).other (at_set HA5_139.out 0 (.int .i32 X)) (by decide) (by decide) (by decide) HG5.out (Nat.le_trans hnw HG5.out) 1 (.int .i32 Y))
  have HB140 := hid ((HB139.out.setCell (p := ⟨B5, 0, none⟩) HG5.out (.int .i32 X)).setCell (p := ⟨B5, 1, none⟩) HG5.out (.int .i32 Y))
  refine hKK.out _ _ HB140.out (fun hHeld => ?_)
  clear hKK K k0 k1 kf
  (try simp only [Act.put, pu1, pu2, pu3])
  generalize World.setCell (World.setCell u139 _ _) _ _ = u140 at HK140 HB140 HA5_140 HA6_140 hHeld ⊢
  refine wpAnyH_ready (rs := [19]) (by kernel_rfl) (by simp) ?_
  refine AllReadyH.cons (i := 19) rfl (fun K hKK => ?_) AllReadyH.nil
  obtain ⟨k0, k1⟩ := HA6_140.out.two
  have kf := HA6_140.out.frozen
  go_simp
  have HA6_141 : Hid (At ((u140.setCell ⟨B6, 0, none⟩ (.int .i32 U)).setCell ⟨B6, 1, none⟩ (.int .i32 V')) B6 #[.int .i32 U, .int .i32 V'] 27) := hid (at_set (at_set HA6_140.out 0 _) 1 _)
  have HA5_141 := hid ((HA5_140.out.far (j := 0) HNE.out (.int .i32 U)).far (j := 1) HNE.out (.int .i32 V'))
  have HK141 := hid ((HK140.out.other HA6_140.out (by decide) (by decide) (by decide) HG6.out (Nat.le_trans hnw HG6.out) 0 (.int .i32 U)).other (at_set HA6_140.out 0 (.int .i32 U)) (by decide) (by decide) (by decide) HG6.out (Nat.le_trans hnw HG6.out) 1 (.int .i32 V'))
  have HB141 := hid ((HB140.out.setCell (p := ⟨B6, 0, none⟩) HG6.out (.int .i32 U)).setCell (p := ⟨B6, 1, none⟩) HG6.out (.int .i32 V'))
  refine hKK.out _ _ HB141.out (fun hHeld => ?_)
  clear hKK K k0 k1 kf
  (try simp only [Act.put, pu1, pu2, pu3])
  generalize World.setCell (World.setCell u140 _ _) _ _ = u141 at HK141 HB141 HA5_141 HA6_141 hHeld ⊢
  refine wpAnyH_ready (rs := [20]) (by kernel_rfl) (by simp) ?_
  refine AllReadyH.cons (i := 20) rfl (fun K hKK => ?_) AllReadyH.nil
  go_simp
  have HK142 := HK141
  have HB142 := HB141
  have HA6_142 := HA6_141
  have HA5_142 := HA5_141
  refine hKK.out _ _ HB142.out (fun hHeld => ?_)
  clear hKK K
  (try simp only [Act.put, pu1, pu2, pu3])
  obtain ⟨u142, hu142⟩ : ∃ z, z = u141 := ⟨_, rfl⟩
  rw [← hu142] at HK142 HB142 HA5_142 HA6_142 hHeld ⊢
  clear hu142
  refine wpAnyH_ready (rs := [21]) (by kernel_rfl) (by simp) ?_
  refine AllReadyH.cons (i := 21) rfl (fun K hKK => ?_) AllReadyH.nil
  go_simp
  have HK143 := HK142
  have HB143 := HB142
  have HA6_143 := HA6_142
  have HA5_143 := HA5_142
  refine hKK.out _ _ HB143.out (fun hHeld => ?_)
  clear hKK K
  (try simp only [Act.put, pu1, pu2, pu3])
  obtain ⟨u143, hu143⟩ : ∃ z, z = u142 := ⟨_, rfl⟩
  rw [← hu143] at HK143 HB143 HA5_143 HA6_143 hHeld ⊢
  clear hu143
  refine wpAnyH_done (by kernel_rfl) ?_ _
  refine NoPanic.normal ?_
  go_wp2_with fail
  go_meet
  case rel => exact ⟨rfl, B5, B6, rfl, rfl, rfl, HK143.out, HA5_143.out, HA6_143.out⟩
 case rest =>
  obtain ⟨rfl, B5, B6, rfl, rfl, rfl, hK, hA5, hA6⟩ := hcut
  have HK1 := hid hK
  have HA5 := hid hA5
  have HA6 := hid hA6
  clear hK hA5 hA6 HK
  obtain ⟨k0, k1⟩ := HA5.out.two
  obtain ⟨k2, k3⟩ := HA6.out.two
  obtain ⟨q4, q5, q6, q7, q8, q9, q10, q11, q12, q13⟩ := HK1.out.gs.p1
  have f1 := HK1.out.gs.frozen
  go_upto_region 2 with fail
  go_region
  have HK2 : Hid (Gk w ((((wc.setCell ⟨b, 14, none⟩ (.int .i32 X)).setCell ⟨b, 15, none⟩ (.int .i32 Y)).setCell ⟨b, 16, none⟩ (.int .i32 U)).setCell ⟨b, 17, none⟩ (.int .i32 V')) n b pb { s with p1 := { s.p1 with ax := X, ay := Y, vx := U, vy := V' } } l) := hid ((((HK1.out.set (j := 14) (s' := { s with p1 := { s.p1 with ax := X } }) rfl (by decide) rfl).set (j := 15) (s' := { s with p1 := { s.p1 with ax := X, ay := Y } }) rfl (by decide) rfl).set (j := 16) (s' := { s with p1 := { s.p1 with ax := X, ay := Y, vx := U } }) rfl (by decide) rfl).set rfl (by decide) rfl)
  generalize World.setCell (World.setCell (World.setCell (World.setCell wc _ _) _ _) _ _) _ _ = w2 at HK2 ⊢
  have HK3 := hid (HK2.out.below (Ev.bd1 (Ev.br _)))
  generalize World.drew w2 = w3 at HK3 ⊢
  clear k0 k1 k2 k3 q4 q5 q6 q7 q8 q9 q10 q11 q12 q13 f1 HK2 HK1 HA5 HA6
  by_cases hw : W' = 0
  · have hwb : (W' != 0) = false := by simp [hw]
    have HS : Hid (moveP s.fr 2 (s.p1, l) = ({ s.p1 with ax := X, ay := Y, vx := U, vy := V' }, l)) := hid (by rw [HR.out, if_pos hw])
    go_wp2_with fail
    go_end0
    exact ⟨rfl, by rw [HS.out]; exact HK3.out⟩
  · have hwb : (W' != 0) = true := by simp [hw]
    have HS : Hid (moveP s.fr 2 (s.p1, l) = ({ s.p1 with ax := X, ay := Y, vx := U, vy := V' }, tel s.fr l 2 3 X)) := hid (by rw [HR.out, if_neg hw])
    go_wp2_with (first
     | (go_at_call 81; ((with_reducible refine (em1 _).mono ?_); rintro e w' ⟨rfl, rfl⟩))
     | (go_at_call 60; ((refine (tl2_3 HK3.out.gs hXb.out).mono ?_); rintro e w5 ⟨rfl, g5⟩; have HK4 := hid (HK3.out.step g5); clear g5)))
    go_end0
    exact ⟨rfl, by rw [HS.out]; exact HK4.out⟩

end Go.Proofs.YtigjflacinlafaaGreatDoor.Gm
