/- The way of the other one goes on (layer 12, game). -/
import Derived.Test.YtfclnhmijjlhdaaGreatDoorGmMove
import Derived.Deep.RegionHeld3
import Derived.Deep.DeepCutAuto
import Derived.Deep.RegionWith
namespace Go.Proofs.YtfclnhmijjlhdaaGreatDoor.Gm
open Go.RowKit Go.Proofs.YtfclnhmijjlhdaaGreatDoor.Fx Go.Proofs.YtfclnhmijjlhdaaGreatDoor.Tg Go.Proofs.YtfclnhmijjlhdaaGreatDoor.Dc
open Go.Proofs.YtfclnhmijjlhdaaGreatDoor.Ev (Ev Ky addR pageI At ecs Pg Evs)
open Go.Proofs.YtfclnhmijjlhdaaGreatDoor.Sh (In32 vec box insideB touchB slI mvP mvV wallI)
set_option linter.unusedVariables false

set_option maxRecDepth 100000 in
set_option maxHeartbeats 4000000 in
theorem move1_c {w : World} {n b pb : Nat} {s : St} {l : List Ev} (h : Gs w n b pb s l) (hp : Mp s.p1) :
 Calls Tryz.prog 105 #[.pointer (some ⟨b, 0, none⟩), .int .i64 1] w fun e w' => e = .returned (.tuple #[]) ∧ Gk w w' n b pb { s with p1 := (moveP s.fr 2 (s.p1, l)).1 } (moveP s.fr 2 (s.p1, l)).2 := by
 have HK := hid h.gk
 have h1 := in32_of hp.ax
 have h2 := in32_of hp.ay
 have hs1 : In32 (slowX s.p1) := slow_bd _ _ _ (sat_bd _)
 have hs2 : In32 (slowY s.p1) := slow_bd _ _ _ (sat_bd _)
 have HSl := fun W => Sh.slow_c s.p1.vx s.p1.vy 61440 131072 hp.vx hp.vy (by decide) (by decide) W
 have HMv := fun W => Sh.move_ok s.p1.ax s.p1.ay (slowX s.p1) (slowY s.p1) (-3932160) (-3932160) 3932160 3932160 h1 h2 hs1 hs2 (by decide) (by decide) (by decide) (by decide) (by decide) W
 have HR : Hid (moveP s.fr 2 (s.p1, l) = ({ s.p1 with ax := mvP s.p1.ax (slowX s.p1) (-3932160) 3932160, ay := mvP s.p1.ay (slowY s.p1) (-3932160) 3932160, vx := mvV s.p1.ax (slowX s.p1) (-3932160) 3932160, vy := mvV s.p1.ay (slowY s.p1) (-3932160) 3932160 }, if wallI s.p1.ax s.p1.ay (slowX s.p1) (slowY s.p1) (-3932160) (-3932160) 3932160 3932160 = 0 then l else tel s.fr l 2 3 (mvP s.p1.ax (slowX s.p1) (-3932160) 3932160))) := hid rfl
 have hX : ∃ X Y U V' W' A B : Int, Hid (X = mvP s.p1.ax (slowX s.p1) (-3932160) 3932160 ∧ Y = mvP s.p1.ay (slowY s.p1) (-3932160) 3932160 ∧ U = mvV s.p1.ax (slowX s.p1) (-3932160) 3932160 ∧ V' = mvV s.p1.ay (slowY s.p1) (-3932160) 3932160 ∧ W' = wallI s.p1.ax s.p1.ay (slowX s.p1) (slowY s.p1) (-3932160) (-3932160) 3932160 3932160 ∧ A = slowX s.p1 ∧ B = slowY s.p1) := ⟨_, _, _, _, _, _, _, rfl, rfl, rfl, rfl, rfl, rfl, rfl⟩
 obtain ⟨X, Y, U, V', W', A, B, hX⟩ := hX
 obtain ⟨x1, x2, x3, x4, x5, x6, x7⟩ := hX.out
 have hXb : Hid (-4194304 ≤ X ∧ X ≤ 4194304) := hid (by rw [x1]; exact mvP_bd _ _)
 rw [← x1, ← x2, ← x3, ← x4, ← x5, ← x6, ← x7] at HMv
 rw [← x1, ← x2, ← x3, ← x4, ← x5] at HR
 change ∀ W, Calls _ _ _ W (fun e w' => e = .returned (vec (slowX s.p1) (slowY s.p1)) ∧ _) at HSl
 rw [← x6, ← x7] at HSl
 clear hX x1 x2 x3 x4 x5 x6 x7 hs1 hs2
 go_enter Tryz.func105, Tryz.ntmps105
 go_upto_region 1 with fail
 go_cut [4, 5, 6, 7] (fun s4 s5 s6 s7 wx => s4 = .pointer (some ⟨b, 14, none⟩) ∧ ∃ B C, s5 = .pointer (some ⟨B, 0, none⟩) ∧ s6 = .pointer (some ⟨C, 0, none⟩) ∧ s7 = .int .i64 W' ∧ Gk w wx n b pb s l ∧ At wx B #[.int .i32 X, .int .i32 Y] 57 ∧ At wx C #[.int .i32 U, .int .i32 V'] 57)
 case first =>
  have hK := hid (fun W (g : Below w.heap.size w W) => (HK.out.below g).gs.p1)
  have HK0 := hid (HK.out.below (Ev.bd1 (Ev.br _)))
  have HB0 := hid (Ev.bd1 (Ev.br w))
  have hnw := h.size
  refine wp_region_noPanic ?_
  refine wp_region_held_drew (S := (fun W => Below w.heap.size w W)) (by kernel_rfl) HB0.out (fun hHeld => ?_)
  generalize World.drew w = u0 at HK0 HB0 hHeld ⊢
  have M := hid (Mv.start HK0.out HB0.out)
  generalize u0 = u at M hHeld ⊢
  (refine tkM 0 16 ?_ rfl rfl (by kernel_rfl) (by rfl) ?_ (by assumption) ?_; rotate_left; (focus (intro W hSW; go_simp; (try with_reducible rfl))); simp only [Act.put, puA, puB, puC])
  (refine tkM 1 17 ?_ rfl rfl (by kernel_rfl) (by rfl) ?_ (by assumption) ?_; rotate_left; (focus (intro W hSW; go_simp; (try with_reducible rfl))); simp only [Act.put, puA, puB, puC])
  (refine tkM 2 18 ?_ rfl rfl (by kernel_rfl) (by rfl) ?_ (by assumption) ?_; rotate_left; (focus (intro W hSW; go_simp; (try with_reducible rfl))); simp only [Act.put, puA, puB, puC])
  (refine tkM 3 19 ?_ rfl rfl (by kernel_rfl) (by rfl) ?_ (by assumption) ?_; rotate_left; (focus (intro W hSW; have hSW2 := hK.out W hSW; go_simp; (try with_reducible rfl))); simp only [Act.put, puA, puB, puC])
  (refine tkM 4 20 ?_ rfl rfl (by kernel_rfl) (by rfl) ?_ (by assumption) ?_; rotate_left; (focus (intro W hSW; go_simp; (try with_reducible rfl))); simp only [Act.put, puA, puB, puC])
  (refine tkM 5 21 ?_ rfl rfl (by kernel_rfl) (by rfl) ?_ (by assumption) ?_; rotate_left; (focus (intro W hSW; go_simp; (try with_reducible rfl))); simp only [Act.put, puA, puB, puC])
  (refine tkM 6 22 ?_ rfl rfl (by kernel_rfl) (by rfl) ?_ (by assumption) ?_; rotate_left; (focus (intro W hSW; go_simp; (try with_reducible rfl))); simp only [Act.put, puA, puB, puC])
  (refine tkM 7 23 ?_ rfl rfl (by kernel_rfl) (by rfl) ?_ (by assumption) ?_; rotate_left; (focus (intro W hSW; have hSW2 := hK.out W hSW; go_simp; (try with_reducible rfl))); simp only [Act.put, puA, puB, puC])
  iterate 9 (all_goals ((first | (have _hm : Hid (Mv w n b pb s l 0 none none u) := M; clear _hm; refine wpAnyH_ready (rs := [8, 16, 17]) (by kernel_rfl) (by simp) ?_) | (have _hm : Hid (Mv w n b pb s l 0 none (some _) u) := M; clear _hm; refine wpAnyH_ready (rs := [8, 16]) (by kernel_rfl) (by simp) ?_) | (have _hm : Hid (Mv w n b pb s l 0 (some _) none u) := M; clear _hm; refine wpAnyH_ready (rs := [8, 17]) (by kernel_rfl) (by simp) ?_) | (have _hm : Hid (Mv w n b pb s l 0 (some _) (some _) u) := M; clear _hm; refine wpAnyH_ready (rs := [8]) (by kernel_rfl) (by simp) ?_) | (have _hm : Hid (Mv w n b pb s l 1 none none u) := M; clear _hm; refine wpAnyH_ready (rs := [9, 16, 17]) (by kernel_rfl) (by simp) ?_) | (have _hm : Hid (Mv w n b pb s l 1 none (some _) u) := M; clear _hm; refine wpAnyH_ready (rs := [9, 16]) (by kernel_rfl) (by simp) ?_) | (have _hm : Hid (Mv w n b pb s l 1 (some _) none u) := M; clear _hm; refine wpAnyH_ready (rs := [9, 17]) (by kernel_rfl) (by simp) ?_) | (have _hm : Hid (Mv w n b pb s l 1 (some _) (some _) u) := M; clear _hm; refine wpAnyH_ready (rs := [9]) (by kernel_rfl) (by simp) ?_) | (have _hm : Hid (Mv w n b pb s l 2 none none u) := M; clear _hm; refine wpAnyH_ready (rs := [10, 16, 17]) (by kernel_rfl) (by simp) ?_) | (have _hm : Hid (Mv w n b pb s l 2 none (some _) u) := M; clear _hm; refine wpAnyH_ready (rs := [10, 16]) (by kernel_rfl) (by simp) ?_) | (have _hm : Hid (Mv w n b pb s l 2 (some _) none u) := M; clear _hm; refine wpAnyH_ready (rs := [10, 17]) (by kernel_rfl) (by simp) ?_) | (have _hm : Hid (Mv w n b pb s l 2 (some _) (some _) u) := M; clear _hm; refine wpAnyH_ready (rs := [10]) (by kernel_rfl) (by simp) ?_) | (have _hm : Hid (Mv w n b pb s l 3 none none u) := M; clear _hm; refine wpAnyH_ready (rs := [16, 17]) (by kernel_rfl) (by simp) ?_) | (have _hm : Hid (Mv w n b pb s l 3 none (some _) u) := M; clear _hm; refine wpAnyH_ready (rs := [16]) (by kernel_rfl) (by simp) ?_) | (have _hm : Hid (Mv w n b pb s l 3 (some _) none u) := M; clear _hm; refine wpAnyH_ready (rs := [17]) (by kernel_rfl) (by simp) ?_) | (have _hm : Hid (Mv w n b pb s l 3 (some _) (some _) u) := M; clear _hm; refine wpAnyH_ready (rs := [18]) (by kernel_rfl) (by simp) ?_) | (have _hm : Hid (Mv w n b pb s l 4 _ _ u) := M; clear _hm; refine wpAnyH_ready (rs := [19]) (by kernel_rfl) (by simp) ?_) | (have _hm : Hid (Mv w n b pb s l 5 _ _ u) := M; clear _hm; refine wpAnyH_ready (rs := [20]) (by kernel_rfl) (by simp) ?_) | (have _hm : Hid (Mv w n b pb s l 6 _ _ u) := M; clear _hm; refine wpAnyH_ready (rs := [21]) (by kernel_rfl) (by simp) ?_)); repeat' (first | exact AllReadyH.nil | (refine AllReadyH.cons (i := 8) rfl (fun K hKK => ?_) ?_; go_simp; refine (HSl _).mono ?_; rintro e u ⟨rfl, g⟩; replace M := hid (M.out.call 1 g); dsimp only; refine hKK.out _ _ M.out.hb (fun hHeld => ?_); clear hKK K; (try simp only [Act.put, puA, puB, puC])) | (refine AllReadyH.cons (i := 9) rfl (fun K hKK => ?_) ?_; go_simp; refine (playersbox_c _).mono ?_; rintro e u ⟨rfl, g⟩; replace M := hid (M.out.call 2 g); dsimp only; refine hKK.out _ _ M.out.hb (fun hHeld => ?_); clear hKK K; (try simp only [Act.put, puA, puB, puC])) | (refine AllReadyH.cons (i := 10) rfl (fun K hKK => ?_) ?_; go_simp; refine (HMv _).mono ?_; rintro e u ⟨rfl, g⟩; replace M := hid (M.out.call 3 g); dsimp only; refine hKK.out _ _ M.out.hb (fun hHeld => ?_); clear hKK K; (try simp only [Act.put, puA, puB, puC]); (refine tkM 11 15 ?_ rfl rfl (by kernel_rfl) (by rfl) ?_ (by assumption) ?_; rotate_left; (focus (intro W hSW; go_simp; (try with_reducible rfl))); simp only [Act.put, puA, puB, puC]); (refine tkM 12 27 ?_ rfl rfl (by kernel_rfl) (by rfl) ?_ (by assumption) ?_; rotate_left; (focus (intro W hSW; go_simp; (try with_reducible rfl))); simp only [Act.put, puA, puB, puC]); (refine tkM 13 28 ?_ rfl rfl (by kernel_rfl) (by rfl) ?_ (by assumption) ?_; rotate_left; (focus (intro W hSW; go_simp; (try with_reducible rfl))); simp only [Act.put, puA, puB, puC]); (refine tkM 14 29 ?_ rfl rfl (by kernel_rfl) (by rfl) ?_ (by assumption) ?_; rotate_left; (focus (intro W hSW; go_simp; (try with_reducible rfl))); simp only [Act.put, puA, puB, puC]); (refine tkM 15 30 ?_ rfl rfl (by kernel_rfl) (by rfl) ?_ (by assumption) ?_; rotate_left; (focus (intro W hSW; go_simp; (try with_reducible rfl))); simp only [Act.put, puA, puB, puC])) | (refine AllReadyH.cons (i := 16) rfl (fun K hKK => ?_) ?_; go_simp; replace M := hid (M.out.newX #[.int .i32 0, .int .i32 0]); refine hKK.out _ _ M.out.hb (fun hHeld => ?_); clear hKK K; (try simp only [Act.put, puA, puB, puC]); generalize u.heap.size = BX at M ⊢; generalize World.alloc u _ = u at M hHeld ⊢) | (refine AllReadyH.cons (i := 17) rfl (fun K hKK => ?_) ?_; go_simp; replace M := hid (M.out.newY #[.int .i32 0, .int .i32 0]); refine hKK.out _ _ M.out.hb (fun hHeld => ?_); clear hKK K; (try simp only [Act.put, puA, puB, puC]); generalize u.heap.size = BY at M ⊢; generalize World.alloc u _ = u at M hHeld ⊢) | (refine AllReadyH.cons (i := 18) rfl (fun K hKK => ?_) ?_; obtain ⟨k0, k1⟩ := (M.out.ax _ _ rfl).1.two; have kf := (M.out.ax _ _ rfl).1.frozen; go_simp; replace M := hid (M.out.setX (X := .int .i32 X) (Y := .int .i32 Y) hnw 4); clear k0 k1 kf; refine hKK.out _ _ M.out.hb (fun hHeld => ?_); clear hKK K; (try simp only [Act.put, puA, puB, puC]); generalize World.setCell (World.setCell _ _ _) _ _ = u at M hHeld ⊢) | (refine AllReadyH.cons (i := 19) rfl (fun K hKK => ?_) ?_; obtain ⟨k0, k1⟩ := (M.out.ay _ _ rfl).1.two; have kf := (M.out.ay _ _ rfl).1.frozen; go_simp; replace M := hid (M.out.setY (X := .int .i32 U) (Y := .int .i32 V') hnw 5); clear k0 k1 kf; refine hKK.out _ _ M.out.hb (fun hHeld => ?_); clear hKK K; (try simp only [Act.put, puA, puB, puC]); generalize World.setCell (World.setCell _ _ _) _ _ = u at M hHeld ⊢) | (refine AllReadyH.cons (i := 20) rfl (fun K hKK => ?_) ?_; go_simp; replace M := hid (M.out.call 6 (Ev.br _)); refine hKK.out _ _ M.out.hb (fun hHeld => ?_); clear hKK K; (try simp only [Act.put, puA, puB, puC])) | (refine AllReadyH.cons (i := 21) rfl (fun K hKK => ?_) ?_; go_simp; refine hKK.out _ _ M.out.hb (fun hHeld => ?_); clear hKK K; (try simp only [Act.put, puA, puB, puC])))))
  all_goals
   refine wpAnyH_done (by kernel_rfl) ?_ _
   refine NoPanic.normal ?_
   go_wp2_with fail
   go_meet
   case rel => exact ⟨rfl, _, _, rfl, rfl, rfl, M.out.hk, (M.out.ax _ _ rfl).1, (M.out.ay _ _ rfl).1⟩
 case rest =>
  obtain ⟨rfl, B5, B6, rfl, rfl, rfl, hK, hA5, hA6⟩ := hcut
  have HK1 := hid hK
  have HA5 := hid hA5
  have HA6 := hid hA6
  clear hK hA5 hA6 HK
  obtain ⟨k0, k1⟩ := HA5.out.two
  obtain ⟨k2, k3⟩ := HA6.out.two
  obtain ⟨q4, q5, q6, q7, q8, q9, q10, q11, q12, q13⟩ := HK1.out.gs.p1
  have f1 := HK1.out.gs.frozen
  go_upto_region 2 with fail
  go_region
  have HK2 : Hid (Gk w ((((wc.setCell ⟨b, 14, none⟩ (.int .i32 X)).setCell ⟨b, 15, none⟩ (.int .i32 Y)).setCell ⟨b, 16, none⟩ (.int .i32 U)).setCell ⟨b, 17, none⟩ (.int .i32 V')) n b pb { s with p1 := { s.p1 with ax := X, ay := Y, vx := U, vy := V' } } l) := hid ((((HK1.out.set (j := 14) (s' := { s with p1 := { s.p1 with ax := X } }) rfl (by decide) rfl).set (j := 15) (s' := { s with p1 := { s.p1 with ax := X, ay := Y } }) rfl (by decide) rfl).set (j := 16) (s' := { s with p1 := { s.p1 with ax := X, ay := Y, vx := U } }) rfl (by decide) rfl).set rfl (by decide) rfl)
  generalize World.setCell (World.setCell (World.setCell (World.setCell wc _ _) _ _) _ _) _ _ = w2 at HK2 ⊢
  have HK3 := hid (HK2.out.below (Ev.bd1 (Ev.br _)))
  generalize World.drew w2 = w3 at HK3 ⊢
  clear k0 k1 k2 k3 q4 q5 q6 q7 q8 q9 q10 q11 q12 q13 f1 HK2 HK1 HA5 HA6
  by_cases hw : W' = 0
  · have hwb : (W' != 0) = false := by simp [hw]
    have HS : Hid (moveP s.fr 2 (s.p1, l) = ({ s.p1 with ax := X, ay := Y, vx := U, vy := V' }, l)) := hid (by rw [HR.out, if_pos hw])
    go_wp2_with fail
    go_end0
    exact ⟨rfl, by rw [HS.out]; exact HK3.out⟩
  · have hwb : (W' != 0) = true := by simp [hw]
    have HS : Hid (moveP s.fr 2 (s.p1, l) = ({ s.p1 with ax := X, ay := Y, vx := U, vy := V' }, tel s.fr l 2 3 X)) := hid (by rw [HR.out, if_neg hw])
    go_wp2_with (first
     | (go_at_call 140; ((with_reducible refine (em1 _).mono ?_); rintro e w' ⟨rfl, rfl⟩))
     | (go_at_call 108; ((refine (tl2_3 HK3.out.gs hXb.out).mono ?_); rintro e w5 ⟨rfl, g5⟩; have HK4 := hid (HK3.out.step g5); clear g5)))
    go_end0
    exact ⟨rfl, by rw [HS.out]; exact HK4.out⟩

end Go.Proofs.YtfclnhmijjlhdaaGreatDoor.Gm
