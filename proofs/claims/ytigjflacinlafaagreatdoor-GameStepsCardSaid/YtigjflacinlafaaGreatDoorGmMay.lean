/- Which players may be (layer 12, game). -/
import Derived.Test.YtigjflacinlafaaGreatDoorGmRight
namespace Go.Proofs.YtigjflacinlafaaGreatDoor.Gm
open Go.RowKit Go.Proofs.YtigjflacinlafaaGreatDoor.Fx Go.Proofs.YtigjflacinlafaaGreatDoor.Tg Go.Proofs.YtigjflacinlafaaGreatDoor.Dc
open Go.Proofs.YtigjflacinlafaaGreatDoor.Ev (Ev Ky addR pageI At ecs Pg Evs)
open Go.Proofs.YtigjflacinlafaaGreatDoor.Sh (In32 vec box insideB touchB slI mvP mvV wallI)
set_option linter.unusedVariables false

def playB (x : Pl) : Bool := inB x.fa 0 65535 && (inB x.hp 0 3 && (inB x.co 0 8 && (inB x.wi 0 20 && (inB x.dn 0 30 && (inB x.sc 0 2 && (insideB (-3932160) (-3932160) 3932160 3932160 x.ax x.ay && (decide (0 < x.hp) == decide (x.dn = 0))))))))

set_option maxRecDepth 100000 in
set_option maxHeartbeats 2000000 in
theorem mayplay_c (x : Pl) (w : World) :
 Calls Tryz.prog 24 #[plV x] w fun e w' => e = .returned (.bool (playB x)) ∧ Below w.heap.size w w' := by
 unfold playB
 have HX := hid (At.new w (plA x) 29)
 have HB := hid (Ev.bal (Ev.br w) (.cells (plA x) 29))
 cases h1 : inB x.fa 0 65535
 case false =>
  go_enter Tryz.func24, Tryz.ntmps24
  go_upto_region 1 with fail
  generalize World.alloc w _ = w0 at HX HB ⊢
  have hK := hid (fun W (k : Below w0.heap.size w0 W) => at_pl (HX.out.below k))
  refine wp_region_noPanic ?_
  refine wp_region_held_drew (S := (fun W => Below w0.heap.size w0 W)) (by kernel_rfl) (by first | exact Ev.bd1 (Ev.br _) | exact Ev.bdn (Ev.br _) _ | exact Ev.br _) (fun hHeld => ?_)
  (refine tk 0 3 ?_ rfl rfl (by kernel_rfl) (by rfl) ?_ (by assumption) ?_)
  rotate_left
  · (intro W hSW; go_simp; (try with_reducible rfl))
  simp only [Act.put, pu1, pu2, pu3]
  (refine tk 1 4 ?_ rfl rfl (by kernel_rfl) (by rfl) ?_ (by assumption) ?_)
  rotate_left
  · (intro W hSW; have hSW2 := hK.out W hSW; go_simp; (try with_reducible rfl))
  simp only [Act.put, pu1, pu2, pu3]
  refine wpAnyH_ready (rs := [2]) (by kernel_rfl) (by simp) ?_
  refine AllReadyH.cons (i := 2) rfl (fun K hKK => ?_) AllReadyH.nil
  go_simp
  ((refine (within_c _ _ _ _).mono ?_); rintro e w' ⟨rfl, rfl⟩; rw [h1])
  dsimp only
  refine hKK.out _ _ (show Below w0.heap.size w0 _ by first | with_reducible assumption | exact Ev.bdn (Ev.br _) _ | exact Ev.bd1 (Ev.br _) | exact Ev.br _) (fun hHeld => ?_)
  clear hKK K
  (try simp only [Act.put, pu1, pu2, pu3])
  (refine tk 3 6 ?_ rfl rfl (by kernel_rfl) (by rfl) ?_ (by assumption) ?_)
  rotate_left
  · (intro W hSW; go_simp; (try with_reducible rfl))
  simp only [Act.put, pu1, pu2, pu3]
  refine skipW (i := 4) (d := 7) rfl rfl (by kernel_rfl) (by kernel_rfl) (by kernel_rfl) (fun _ _ _ h => h) (by rfl) (by assumption) ?_
  simp only [Act.put, pu1, pu2, pu3]
  refine skipW (i := 5) (d := 8) rfl rfl (by kernel_rfl) (by kernel_rfl) (by kernel_rfl) (fun _ _ _ h => h) (by rfl) (by assumption) ?_
  simp only [Act.put, pu1, pu2, pu3]
  refine skipW (i := 6) (d := 9) rfl rfl (by kernel_rfl) (by kernel_rfl) (by kernel_rfl) (fun _ _ _ h => h) (by rfl) (by assumption) ?_
  simp only [Act.put, pu1, pu2, pu3]
  (refine tk 7 10 ?_ rfl rfl (by kernel_rfl) (by rfl) ?_ (by assumption) ?_)
  rotate_left
  · (intro W hSW; go_simp; (try with_reducible rfl))
  simp only [Act.put, pu1, pu2, pu3]
  (refine tk 8 11 ?_ rfl rfl (by kernel_rfl) (by rfl) ?_ (by assumption) ?_)
  rotate_left
  · (intro W hSW; go_simp; (try with_reducible rfl))
  simp only [Act.put, pu1, pu2, pu3]
  refine skipW (i := 9) (d := 12) rfl rfl (by kernel_rfl) (by kernel_rfl) (by kernel_rfl) (fun _ _ _ h => h) (by rfl) (by assumption) ?_
  simp only [Act.put, pu1, pu2, pu3]
  refine skipW (i := 10) (d := 13) rfl rfl (by kernel_rfl) (by kernel_rfl) (by kernel_rfl) (fun _ _ _ h => h) (by rfl) (by assumption) ?_
  simp only [Act.put, pu1, pu2, pu3]
  refine skipW (i := 11) (d := 14) rfl rfl (by kernel_rfl) (by kernel_rfl) (by kernel_rfl) (fun _ _ _ h => h) (by rfl) (by assumption) ?_
  simp only [Act.put, pu1, pu2, pu3]
  (refine tk 12 15 ?_ rfl rfl (by kernel_rfl) (by rfl) ?_ (by assumption) ?_)
  rotate_left
  · (intro W hSW; go_simp; (try with_reducible rfl))
  simp only [Act.put, pu1, pu2, pu3]
  (refine tk 13 16 ?_ rfl rfl (by kernel_rfl) (by rfl) ?_ (by assumption) ?_)
  rotate_left
  · (intro W hSW; go_simp; (try with_reducible rfl))
  simp only [Act.put, pu1, pu2, pu3]
  refine skipW (i := 14) (d := 17) rfl rfl (by kernel_rfl) (by kernel_rfl) (by kernel_rfl) (fun _ _ _ h => h) (by rfl) (by assumption) ?_
  simp only [Act.put, pu1, pu2, pu3]
  refine skipW (i := 15) (d := 18) rfl rfl (by kernel_rfl) (by kernel_rfl) (by kernel_rfl) (fun _ _ _ h => h) (by rfl) (by assumption) ?_
  simp only [Act.put, pu1, pu2, pu3]
  refine skipW (i := 16) (d := 19) rfl rfl (by kernel_rfl) (by kernel_rfl) (by kernel_rfl) (fun _ _ _ h => h) (by rfl) (by assumption) ?_
  simp only [Act.put, pu1, pu2, pu3]
  (refine tk 17 20 ?_ rfl rfl (by kernel_rfl) (by rfl) ?_ (by assumption) ?_)
  rotate_left
  · (intro W hSW; go_simp; (try with_reducible rfl))
  simp only [Act.put, pu1, pu2, pu3]
  (refine tk 18 21 ?_ rfl rfl (by kernel_rfl) (by rfl) ?_ (by assumption) ?_)
  rotate_left
  · (intro W hSW; go_simp; (try with_reducible rfl))
  simp only [Act.put, pu1, pu2, pu3]
  refine skipW (i := 19) (d := 22) rfl rfl (by kernel_rfl) (by kernel_rfl) (by kernel_rfl) (fun _ _ _ h => h) (by rfl) (by assumption) ?_
  simp only [Act.put, pu1, pu2, pu3]
  refine skipW (i := 20) (d := 23) rfl rfl (by kernel_rfl) (by kernel_rfl) (by kernel_rfl) (fun _ _ _ h => h) (by rfl) (by assumption) ?_
  simp only [Act.put, pu1, pu2, pu3]
  refine skipW (i := 21) (d := 24) rfl rfl (by kernel_rfl) (by kernel_rfl) (by kernel_rfl) (fun _ _ _ h => h) (by rfl) (by assumption) ?_
  simp only [Act.put, pu1, pu2, pu3]
  (refine tk 22 25 ?_ rfl rfl (by kernel_rfl) (by rfl) ?_ (by assumption) ?_)
  rotate_left
  · (intro W hSW; go_simp; (try with_reducible rfl))
  simp only [Act.put, pu1, pu2, pu3]
  (refine tk 23 26 ?_ rfl rfl (by kernel_rfl) (by rfl) ?_ (by assumption) ?_)
  rotate_left
  · (intro W hSW; go_simp; (try with_reducible rfl))
  simp only [Act.put, pu1, pu2, pu3]
  refine skipW (i := 24) (d := 27) rfl rfl (by kernel_rfl) (by kernel_rfl) (by kernel_rfl) (fun _ _ _ h => h) (by rfl) (by assumption) ?_
  simp only [Act.put, pu1, pu2, pu3]
  refine skipW (i := 25) (d := 28) rfl rfl (by kernel_rfl) (by kernel_rfl) (by kernel_rfl) (fun _ _ _ h => h) (by rfl) (by assumption) ?_
  simp only [Act.put, pu1, pu2, pu3]
  refine skipW (i := 26) (d := 29) rfl rfl (by kernel_rfl) (by kernel_rfl) (by kernel_rfl) (fun _ _ _ h => h) (by rfl) (by assumption) ?_
  simp only [Act.put, pu1, pu2, pu3]
  (refine tk 27 30 ?_ rfl rfl (by kernel_rfl) (by rfl) ?_ (by assumption) ?_)
  rotate_left
  · (intro W hSW; go_simp; (try with_reducible rfl))
  simp only [Act.put, pu1, pu2, pu3]
  (refine tk 28 31 ?_ rfl rfl (by kernel_rfl) (by rfl) ?_ (by assumption) ?_)
  rotate_left
  · (intro W hSW; go_simp; (try with_reducible rfl))
  simp only [Act.put, pu1, pu2, pu3]
  refine skipW (i := 29) (d := 32) rfl rfl (by kernel_rfl) (by kernel_rfl) (by kernel_rfl) (fun _ _ _ h => h) (by rfl) (by assumption) ?_
  simp only [Act.put, pu1, pu2, pu3]
  refine skipW (i := 30) (d := 33) rfl rfl (by kernel_rfl) (by kernel_rfl) (by kernel_rfl) (fun _ _ _ h => h) (by rfl) (by assumption) ?_
  simp only [Act.put, pu1, pu2, pu3]
  refine skipW (i := 31) (d := 34) rfl rfl (by kernel_rfl) (by kernel_rfl) (by kernel_rfl) (fun _ _ _ h => h) (by rfl) (by assumption) ?_
  simp only [Act.put, pu1, pu2, pu3]
  refine skipW (i := 32) (d := 35) rfl rfl (by kernel_rfl) (by kernel_rfl) (by kernel_rfl) (fun _ _ _ h => h) (by rfl) (by assumption) ?_
  simp only [Act.put, pu1, pu2, pu3]
  (refine tk 33 36 ?_ rfl rfl (by kernel_rfl) (by rfl) ?_ (by assumption) ?_)
  rotate_left
  · (intro W hSW; go_simp; (try with_reducible rfl))
  simp only [Act.put, pu1, pu2, pu3]
  (refine tk 34 37 ?_ rfl rfl (by kernel_rfl) (by rfl) ?_ (by assumption) ?_)
  rotate_left
  · (intro W hSW; go_simp; (try with_reducible rfl))
  simp only [Act.put, pu1, pu2, pu3]
  refine skipW (i := 35) (d := 38) rfl rfl (by kernel_rfl) (by kernel_rfl) (by kernel_rfl) (fun _ _ _ h => h) (by rfl) (by assumption) ?_
  simp only [Act.put, pu1, pu2, pu3]
  refine skipW (i := 36) (d := 39) rfl rfl (by kernel_rfl) (by kernel_rfl) (by kernel_rfl) (fun _ _ _ h => h) (by rfl) (by assumption) ?_
  simp only [Act.put, pu1, pu2, pu3]
  refine skipW (i := 37) (d := 40) rfl rfl (by kernel_rfl) (by kernel_rfl) (by kernel_rfl) (fun _ _ _ h => h) (by rfl) (by assumption) ?_
  simp only [Act.put, pu1, pu2, pu3]
  refine skipW (i := 38) (d := 41) rfl rfl (by kernel_rfl) (by kernel_rfl) (by kernel_rfl) (fun _ _ _ h => h) (by rfl) (by assumption) ?_
  simp only [Act.put, pu1, pu2, pu3]
  refine skipW (i := 39) (d := 42) rfl rfl (by kernel_rfl) (by kernel_rfl) (by kernel_rfl) (fun _ _ _ h => h) (by rfl) (by assumption) ?_
  simp only [Act.put, pu1, pu2, pu3]
  refine skipW (i := 40) (d := 43) rfl rfl (by kernel_rfl) (by kernel_rfl) (by kernel_rfl) (fun _ _ _ h => h) (by rfl) (by assumption) ?_
  simp only [Act.put, pu1, pu2, pu3]
  refine skipW (i := 41) (d := 44) rfl rfl (by kernel_rfl) (by kernel_rfl) (by kernel_rfl) (fun _ _ _ h => h) (by rfl) (by assumption) ?_
  simp only [Act.put, pu1, pu2, pu3]
  (refine tk 42 45 ?_ rfl rfl (by kernel_rfl) (by rfl) ?_ (by assumption) ?_)
  rotate_left
  · (intro W hSW; go_simp; (try with_reducible rfl))
  simp only [Act.put, pu1, pu2, pu3]
  (refine tk 43 2 ?_ rfl rfl (by kernel_rfl) (by rfl) ?_ (by assumption) ?_)
  rotate_left
  · (intro W hSW; go_simp; (try with_reducible rfl))
  simp only [Act.put, pu1, pu2, pu3]
  refine wpAnyH_done (by kernel_rfl) ?_ _
  refine NoPanic.normal ?_
  go_wp2_with fail
  go_ret
  exact ⟨by first | rfl | simp | simp_all, Ev.bt HB.out (by first | with_reducible assumption | exact Ev.bdn (Ev.br _) _ | exact Ev.bd1 (Ev.br _) | exact Ev.br _)⟩
 cases h2 : inB x.hp 0 3
 case false =>
  go_enter Tryz.func24, Tryz.ntmps24
  go_upto_region 1 with fail
  generalize World.alloc w _ = w0 at HX HB ⊢
  have hK := hid (fun W (k : Below w0.heap.size w0 W) => at_pl (HX.out.below k))
  refine wp_region_noPanic ?_
  refine wp_region_held_drew (S := (fun W => Below w0.heap.size w0 W)) (by kernel_rfl) (by first | exact Ev.bd1 (Ev.br _) | exact Ev.bdn (Ev.br _) _ | exact Ev.br _) (fun hHeld => ?_)
  (refine tk 0 3 ?_ rfl rfl (by kernel_rfl) (by rfl) ?_ (by assumption) ?_)
  rotate_left
  · (intro W hSW; go_simp; (try with_reducible rfl))
  simp only [Act.put, pu1, pu2, pu3]
  (refine tk 1 4 ?_ rfl rfl (by kernel_rfl) (by rfl) ?_ (by assumption) ?_)
  rotate_left
  · (intro W hSW; have hSW2 := hK.out W hSW; go_simp; (try with_reducible rfl))
  simp only [Act.put, pu1, pu2, pu3]
  refine wpAnyH_ready (rs := [2]) (by kernel_rfl) (by simp) ?_
  refine AllReadyH.cons (i := 2) rfl (fun K hKK => ?_) AllReadyH.nil
  go_simp
  ((refine (within_c _ _ _ _).mono ?_); rintro e w' ⟨rfl, rfl⟩; rw [h1])
  dsimp only
  refine hKK.out _ _ (show Below w0.heap.size w0 _ by first | with_reducible assumption | exact Ev.bdn (Ev.br _) _ | exact Ev.bd1 (Ev.br _) | exact Ev.br _) (fun hHeld => ?_)
  clear hKK K
  (try simp only [Act.put, pu1, pu2, pu3])
  (refine tk 3 6 ?_ rfl rfl (by kernel_rfl) (by rfl) ?_ (by assumption) ?_)
  rotate_left
  · (intro W hSW; go_simp; (try with_reducible rfl))
  simp only [Act.put, pu1, pu2, pu3]
  (refine tk 4 7 ?_ rfl rfl (by kernel_rfl) (by rfl) ?_ (by assumption) ?_)
  rotate_left
  · (intro W hSW; go_simp; (try with_reducible rfl))
  simp only [Act.put, pu1, pu2, pu3]
  (refine tk 5 8 ?_ rfl rfl (by kernel_rfl) (by rfl) ?_ (by assumption) ?_)
  rotate_left
  · (intro W hSW; have hSW2 := hK.out W hSW; go_simp; (try with_reducible rfl))
  simp only [Act.put, pu1, pu2, pu3]
  refine wpAnyH_ready (rs := [6]) (by kernel_rfl) (by simp) ?_
  refine AllReadyH.cons (i := 6) rfl (fun K hKK => ?_) AllReadyH.nil
  go_simp
  ((refine (within_c _ _ _ _).mono ?_); rintro e w' ⟨rfl, rfl⟩; rw [h2])
  dsimp only
  refine hKK.out _ _ (show Below w0.heap.size w0 _ by first | with_reducible assumption | exact Ev.bdn (Ev.br _) _ | exact Ev.bd1 (Ev.br _) | exact Ev.br _) (fun hHeld => ?_)
  clear hKK K
  (try simp only [Act.put, pu1, pu2, pu3])
  (refine tk 7 10 ?_ rfl rfl (by kernel_rfl) (by rfl) ?_ (by assumption) ?_)
  rotate_left
  · (intro W hSW; go_simp; (try with_reducible rfl))
  simp only [Act.put, pu1, pu2, pu3]
  (refine tk 8 11 ?_ rfl rfl (by kernel_rfl) (by rfl) ?_ (by assumption) ?_)
  rotate_left
  · (intro W hSW; go_simp; (try with_reducible rfl))
  simp only [Act.put, pu1, pu2, pu3]
  refine skipW (i := 9) (d := 12) rfl rfl (by kernel_rfl) (by kernel_rfl) (by kernel_rfl) (fun _ _ _ h => h) (by rfl) (by assumption) ?_
  simp only [Act.put, pu1, pu2, pu3]
  refine skipW (i := 10) (d := 13) rfl rfl (by kernel_rfl) (by kernel_rfl) (by kernel_rfl) (fun _ _ _ h => h) (by rfl) (by assumption) ?_
  simp only [Act.put, pu1, pu2, pu3]
  refine skipW (i := 11) (d := 14) rfl rfl (by kernel_rfl) (by kernel_rfl) (by kernel_rfl) (fun _ _ _ h => h) (by rfl) (by assumption) ?_
  simp only [Act.put, pu1, pu2, pu3]
  (refine tk 12 15 ?_ rfl rfl (by kernel_rfl) (by rfl) ?_ (by assumption) ?_)
  rotate_left
  · (intro W hSW; go_simp; (try with_reducible rfl))
  simp only [Act.put, pu1, pu2, pu3]
  (refine tk 13 16 ?_ rfl rfl (by kernel_rfl) (by rfl) ?_ (by assumption) ?_)
  rotate_left
  · (intro W hSW; go_simp; (try with_reducible rfl))
  simp only [Act.put, pu1, pu2, pu3]
  refine skipW (i := 14) (d := 17) rfl rfl (by kernel_rfl) (by kernel_rfl) (by kernel_rfl) (fun _ _ _ h => h) (by rfl) (by assumption) ?_
  simp only [Act.put, pu1, pu2, pu3]
  refine skipW (i := 15) (d := 18) rfl rfl (by kernel_rfl) (by kernel_rfl) (by kernel_rfl) (fun _ _ _ h => h) (by rfl) (by assumption) ?_
  simp only [Act.put, pu1, pu2, pu3]
  refine skipW (i := 16) (d := 19) rfl rfl (by kernel_rfl) (by kernel_rfl) (by kernel_rfl) (fun _ _ _ h => h) (by rfl) (by assumption) ?_
  simp only [Act.put, pu1, pu2, pu3]
  (refine tk 17 20 ?_ rfl rfl (by kernel_rfl) (by rfl) ?_ (by assumption) ?_)
  rotate_left
  · (intro W hSW; go_simp; (try with_reducible rfl))
  simp only [Act.put, pu1, pu2, pu3]
  (refine tk 18 21 ?_ rfl rfl (by kernel_rfl) (by rfl) ?_ (by assumption) ?_)
  rotate_left
  · (intro W hSW; go_simp; (try with_reducible rfl))
  simp only [Act.put, pu1, pu2, pu3]
  refine skipW (i := 19) (d := 22) rfl rfl (by kernel_rfl) (by kernel_rfl) (by kernel_rfl) (fun _ _ _ h => h) (by rfl) (by assumption) ?_
  simp only [Act.put, pu1, pu2, pu3]
  refine skipW (i := 20) (d := 23) rfl rfl (by kernel_rfl) (by kernel_rfl) (by kernel_rfl) (fun _ _ _ h => h) (by rfl) (by assumption) ?_
  simp only [Act.put, pu1, pu2, pu3]
  refine skipW (i := 21) (d := 24) rfl rfl (by kernel_rfl) (by kernel_rfl) (by kernel_rfl) (fun _ _ _ h => h) (by rfl) (by assumption) ?_
  simp only [Act.put, pu1, pu2, pu3]
  (refine tk 22 25 ?_ rfl rfl (by kernel_rfl) (by rfl) ?_ (by assumption) ?_)
  rotate_left
  · (intro W hSW; go_simp; (try with_reducible rfl))
  simp only [Act.put, pu1, pu2, pu3]
  (refine tk 23 26 ?_ rfl rfl (by kernel_rfl) (by rfl) ?_ (by assumption) ?_)
  rotate_left
  · (intro W hSW; go_simp; (try with_reducible rfl))
  simp only [Act.put, pu1, pu2, pu3]
  refine skipW (i := 24) (d := 27) rfl rfl (by kernel_rfl) (by kernel_rfl) (by kernel_rfl) (fun _ _ _ h => h) (by rfl) (by assumption) ?_
  simp only [Act.put, pu1, pu2, pu3]
  refine skipW (i := 25) (d := 28) rfl rfl (by kernel_rfl) (by kernel_rfl) (by kernel_rfl) (fun _ _ _ h => h) (by rfl) (by assumption) ?_
  simp only [Act.put, pu1, pu2, pu3]
  refine skipW (i := 26) (d := 29) rfl rfl (by kernel_rfl) (by kernel_rfl) (by kernel_rfl) (fun _ _ _ h => h) (by rfl) (by assumption) ?_
  simp only [Act.put, pu1, pu2, pu3]
  (refine tk 27 30 ?_ rfl rfl (by kernel_rfl) (by rfl) ?_ (by assumption) ?_)
  rotate_left
  · (intro W hSW; go_simp; (try with_reducible rfl))
  simp only [Act.put, pu1, pu2, pu3]
  (refine tk 28 31 ?_ rfl rfl (by kernel_rfl) (by rfl) ?_ (by assumption) ?_)
  rotate_left
  · (intro W hSW; go_simp; (try with_reducible rfl))
  simp only [Act.put, pu1, pu2, pu3]
  refine skipW (i := 29) (d := 32) rfl rfl (by kernel_rfl) (by kernel_rfl) (by kernel_rfl) (fun _ _ _ h => h) (by rfl) (by assumption) ?_
  simp only [Act.put, pu1, pu2, pu3]
  refine skipW (i := 30) (d := 33) rfl rfl (by kernel_rfl) (by kernel_rfl) (by kernel_rfl) (fun _ _ _ h => h) (by rfl) (by assumption) ?_
  simp only [Act.put, pu1, pu2, pu3]
  refine skipW (i := 31) (d := 34) rfl rfl (by kernel_rfl) (by kernel_rfl) (by kernel_rfl) (fun _ _ _ h => h) (by rfl) (by assumption) ?_
  simp only [Act.put, pu1, pu2, pu3]
  refine skipW (i := 32) (d := 35) rfl rfl (by kernel_rfl) (by kernel_rfl) (by kernel_rfl) (fun _ _ _ h => h) (by rfl) (by assumption) ?_
  simp only [Act.put, pu1, pu2, pu3]
  (refine tk 33 36 ?_ rfl rfl (by kernel_rfl) (by rfl) ?_ (by assumption) ?_)
  rotate_left
  · (intro W hSW; go_simp; (try with_reducible rfl))
  simp only [Act.put, pu1, pu2, pu3]
  (refine tk 34 37 ?_ rfl rfl (by kernel_rfl) (by rfl) ?_ (by assumption) ?_)
  rotate_left
  · (intro W hSW; go_simp; (try with_reducible rfl))
  simp only [Act.put, pu1, pu2, pu3]
  refine skipW (i := 35) (d := 38) rfl rfl (by kernel_rfl) (by kernel_rfl) (by kernel_rfl) (fun _ _ _ h => h) (by rfl) (by assumption) ?_
  simp only [Act.put, pu1, pu2, pu3]
  refine skipW (i := 36) (d := 39) rfl rfl (by kernel_rfl) (by kernel_rfl) (by kernel_rfl) (fun _ _ _ h => h) (by rfl) (by assumption) ?_
  simp only [Act.put, pu1, pu2, pu3]
  refine skipW (i := 37) (d := 40) rfl rfl (by kernel_rfl) (by kernel_rfl) (by kernel_rfl) (fun _ _ _ h => h) (by rfl) (by assumption) ?_
  simp only [Act.put, pu1, pu2, pu3]
  refine skipW (i := 38) (d := 41) rfl rfl (by kernel_rfl) (by kernel_rfl) (by kernel_rfl) (fun _ _ _ h => h) (by rfl) (by assumption) ?_
  simp only [Act.put, pu1, pu2, pu3]
  refine skipW (i := 39) (d := 42) rfl rfl (by kernel_rfl) (by kernel_rfl) (by kernel_rfl) (fun _ _ _ h => h) (by rfl) (by assumption) ?_
  simp only [Act.put, pu1, pu2, pu3]
  refine skipW (i := 40) (d := 43) rfl rfl (by kernel_rfl) (by kernel_rfl) (by kernel_rfl) (fun _ _ _ h => h) (by rfl) (by assumption) ?_
  simp only [Act.put, pu1, pu2, pu3]
  refine skipW (i := 41) (d := 44) rfl rfl (by kernel_rfl) (by kernel_rfl) (by kernel_rfl) (fun _ _ _ h => h) (by rfl) (by assumption) ?_
  simp only [Act.put, pu1, pu2, pu3]
  (refine tk 42 45 ?_ rfl rfl (by kernel_rfl) (by rfl) ?_ (by assumption) ?_)
  rotate_left
  · (intro W hSW; go_simp; (try with_reducible rfl))
  simp only [Act.put, pu1, pu2, pu3]
  (refine tk 43 2 ?_ rfl rfl (by kernel_rfl) (by rfl) ?_ (by assumption) ?_)
  rotate_left
  · (intro W hSW; go_simp; (try with_reducible rfl))
  simp only [Act.put, pu1, pu2, pu3]
  refine wpAnyH_done (by kernel_rfl) ?_ _
  refine NoPanic.normal ?_
  go_wp2_with fail
  go_ret
  exact ⟨by first | rfl | simp | simp_all, Ev.bt HB.out (by first | with_reducible assumption | exact Ev.bdn (Ev.br _) _ | exact Ev.bd1 (Ev.br _) | exact Ev.br _)⟩
 cases h3 : inB x.co 0 8
 case false =>
  go_enter Tryz.func24, Tryz.ntmps24
  go_upto_region 1 with fail
  generalize World.alloc w _ = w0 at HX HB ⊢
  have hK := hid (fun W (k : Below w0.heap.size w0 W) => at_pl (HX.out.below k))
  refine wp_region_noPanic ?_
  refine wp_region_held_drew (S := (fun W => Below w0.heap.size w0 W)) (by kernel_rfl) (by first | exact Ev.bd1 (Ev.br _) | exact Ev.bdn (Ev.br _) _ | exact Ev.br _) (fun hHeld => ?_)
  (refine tk 0 3 ?_ rfl rfl (by kernel_rfl) (by rfl) ?_ (by assumption) ?_)
  rotate_left
  · (intro W hSW; go_simp; (try with_reducible rfl))
  simp only [Act.put, pu1, pu2, pu3]
  (refine tk 1 4 ?_ rfl rfl (by kernel_rfl) (by rfl) ?_ (by assumption) ?_)
  rotate_left
  · (intro W hSW; have hSW2 := hK.out W hSW; go_simp; (try with_reducible rfl))
  simp only [Act.put, pu1, pu2, pu3]
  refine wpAnyH_ready (rs := [2]) (by kernel_rfl) (by simp) ?_
  refine AllReadyH.cons (i := 2) rfl (fun K hKK => ?_) AllReadyH.nil
  go_simp
  ((refine (within_c _ _ _ _).mono ?_); rintro e w' ⟨rfl, rfl⟩; rw [h1])
  dsimp only
  refine hKK.out _ _ (show Below w0.heap.size w0 _ by first | with_reducible assumption | exact Ev.bdn (Ev.br _) _ | exact Ev.bd1 (Ev.br _) | exact Ev.br _) (fun hHeld => ?_)
  clear hKK K
  (try simp only [Act.put, pu1, pu2, pu3])
  (refine tk 3 6 ?_ rfl rfl (by kernel_rfl) (by rfl) ?_ (by assumption) ?_)
  rotate_left
  · (intro W hSW; go_simp; (try with_reducible rfl))
  simp only [Act.put, pu1, pu2, pu3]
  (refine tk 4 7 ?_ rfl rfl (by kernel_rfl) (by rfl) ?_ (by assumption) ?_)
  rotate_left
  · (intro W hSW; go_simp; (try with_reducible rfl))
  simp only [Act.put, pu1, pu2, pu3]
  (refine tk 5 8 ?_ rfl rfl (by kernel_rfl) (by rfl) ?_ (by assumption) ?_)
  rotate_left
  · (intro W hSW; have hSW2 := hK.out W hSW; go_simp; (try with_reducible rfl))
  simp only [Act.put, pu1, pu2, pu3]
  refine wpAnyH_ready (rs := [6]) (by kernel_rfl) (by simp) ?_
  refine AllReadyH.cons (i := 6) rfl (fun K hKK => ?_) AllReadyH.nil
  go_simp
  ((refine (within_c _ _ _ _).mono ?_); rintro e w' ⟨rfl, rfl⟩; rw [h2])
  dsimp only
  refine hKK.out _ _ (show Below w0.heap.size w0 _ by first | with_reducible assumption | exact Ev.bdn (Ev.br _) _ | exact Ev.bd1 (Ev.br _) | exact Ev.br _) (fun hHeld => ?_)
  clear hKK K
  (try simp only [Act.put, pu1, pu2, pu3])
  (refine tk 7 10 ?_ rfl rfl (by kernel_rfl) (by rfl) ?_ (by assumption) ?_)
  rotate_left
  · (intro W hSW; go_simp; (try with_reducible rfl))
  simp only [Act.put, pu1, pu2, pu3]
  (refine tk 8 11 ?_ rfl rfl (by kernel_rfl) (by rfl) ?_ (by assumption) ?_)
  rotate_left
  · (intro W hSW; go_simp; (try with_reducible rfl))
  simp only [Act.put, pu1, pu2, pu3]
  (refine tk 9 12 ?_ rfl rfl (by kernel_rfl) (by rfl) ?_ (by assumption) ?_)
  rotate_left
  · (intro W hSW; go_simp; (try with_reducible rfl))
  simp only [Act.put, pu1, pu2, pu3]
  (refine tk 10 13 ?_ rfl rfl (by kernel_rfl) (by rfl) ?_ (by assumption) ?_)
  rotate_left
  · (intro W hSW; have hSW2 := hK.out W hSW; go_simp; (try with_reducible rfl))
  simp only [Act.put, pu1, pu2, pu3]
  refine wpAnyH_ready (rs := [11]) (by kernel_rfl) (by simp) ?_
  refine AllReadyH.cons (i := 11) rfl (fun K hKK => ?_) AllReadyH.nil
  go_simp
  ((refine (within_c _ _ _ _).mono ?_); rintro e w' ⟨rfl, rfl⟩; rw [h3])
  dsimp only
  refine hKK.out _ _ (show Below w0.heap.size w0 _ by first | with_reducible assumption | exact Ev.bdn (Ev.br _) _ | exact Ev.bd1 (Ev.br _) | exact Ev.br _) (fun hHeld => ?_)
  clear hKK K
  (try simp only [Act.put, pu1, pu2, pu3])
  (refine tk 12 15 ?_ rfl rfl (by kernel_rfl) (by rfl) ?_ (by assumption) ?_)
  rotate_left
  · (intro W hSW; go_simp; (try with_reducible rfl))
  simp only [Act.put, pu1, pu2, pu3]
  (refine tk 13 16 ?_ rfl rfl (by kernel_rfl) (by rfl) ?_ (by assumption) ?_)
  rotate_left
  · (intro W hSW; go_simp; (try with_reducible rfl))
  simp only [Act.put, pu1, pu2, pu3]
  refine skipW (i := 14) (d := 17) rfl rfl (by kernel_rfl) (by kernel_rfl) (by kernel_rfl) (fun _ _ _ h => h) (by rfl) (by assumption) ?_
  simp only [Act.put, pu1, pu2, pu3]
  refine skipW (i := 15) (d := 18) rfl rfl (by kernel_rfl) (by kernel_rfl) (by kernel_rfl) (fun _ _ _ h => h) (by rfl) (by assumption) ?_
  simp only [Act.put, pu1, pu2, pu3]
  refine skipW (i := 16) (d := 19) rfl rfl (by kernel_rfl) (by kernel_rfl) (by kernel_rfl) (fun _ _ _ h => h) (by rfl) (by assumption) ?_
  simp only [Act.put, pu1, pu2, pu3]
  (refine tk 17 20 ?_ rfl rfl (by kernel_rfl) (by rfl) ?_ (by assumption) ?_)
  rotate_left
  · (intro W hSW; go_simp; (try with_reducible rfl))
  simp only [Act.put, pu1, pu2, pu3]
  (refine tk 18 21 ?_ rfl rfl (by kernel_rfl) (by rfl) ?_ (by assumption) ?_)
  rotate_left
  · (intro W hSW; go_simp; (try with_reducible rfl))
  simp only [Act.put, pu1, pu2, pu3]
  refine skipW (i := 19) (d := 22) rfl rfl (by kernel_rfl) (by kernel_rfl) (by kernel_rfl) (fun _ _ _ h => h) (by rfl) (by assumption) ?_
  simp only [Act.put, pu1, pu2, pu3]
  refine skipW (i := 20) (d := 23) rfl rfl (by kernel_rfl) (by kernel_rfl) (by kernel_rfl) (fun _ _ _ h => h) (by rfl) (by assumption) ?_
  simp only [Act.put, pu1, pu2, pu3]
  refine skipW (i := 21) (d := 24) rfl rfl (by kernel_rfl) (by kernel_rfl) (by kernel_rfl) (fun _ _ _ h => h) (by rfl) (by assumption) ?_
  simp only [Act.put, pu1, pu2, pu3]
  (refine tk 22 25 ?_ rfl rfl (by kernel_rfl) (by rfl) ?_ (by assumption) ?_)
  rotate_left
  · (intro W hSW; go_simp; (try with_reducible rfl))
  simp only [Act.put, pu1, pu2, pu3]
  (refine tk 23 26 ?_ rfl rfl (by kernel_rfl) (by rfl) ?_ (by assumption) ?_)
  rotate_left
  · (intro W hSW; go_simp; (try with_reducible rfl))
  simp only [Act.put, pu1, pu2, pu3]
  refine skipW (i := 24) (d := 27) rfl rfl (by kernel_rfl) (by kernel_rfl) (by kernel_rfl) (fun _ _ _ h => h) (by rfl) (by assumption) ?_
  simp only [Act.put, pu1, pu2, pu3]
  refine skipW (i := 25) (d := 28) rfl rfl (by kernel_rfl) (by kernel_rfl) (by kernel_rfl) (fun _ _ _ h => h) (by rfl) (by assumption) ?_
  simp only [Act.put, pu1, pu2, pu3]
  refine skipW (i := 26) (d := 29) rfl rfl (by kernel_rfl) (by kernel_rfl) (by kernel_rfl) (fun _ _ _ h => h) (by rfl) (by assumption) ?_
  simp only [Act.put, pu1, pu2, pu3]
  (refine tk 27 30 ?_ rfl rfl (by kernel_rfl) (by rfl) ?_ (by assumption) ?_)
  rotate_left
  · (intro W hSW; go_simp; (try with_reducible rfl))
  simp only [Act.put, pu1, pu2, pu3]
  (refine tk 28 31 ?_ rfl rfl (by kernel_rfl) (by rfl) ?_ (by assumption) ?_)
  rotate_left
  · (intro W hSW; go_simp; (try with_reducible rfl))
  simp only [Act.put, pu1, pu2, pu3]
  refine skipW (i := 29) (d := 32) rfl rfl (by kernel_rfl) (by kernel_rfl) (by kernel_rfl) (fun _ _ _ h => h) (by rfl) (by assumption) ?_
  simp only [Act.put, pu1, pu2, pu3]
  refine skipW (i := 30) (d := 33) rfl rfl (by kernel_rfl) (by kernel_rfl) (by kernel_rfl) (fun _ _ _ h => h) (by rfl) (by assumption) ?_
  simp only [Act.put, pu1, pu2, pu3]
  refine skipW (i := 31) (d := 34) rfl rfl (by kernel_rfl) (by kernel_rfl) (by kernel_rfl) (fun _ _ _ h => h) (by rfl) (by assumption) ?_
  simp only [Act.put, pu1, pu2, pu3]
  refine skipW (i := 32) (d := 35) rfl rfl (by kernel_rfl) (by kernel_rfl) (by kernel_rfl) (fun _ _ _ h => h) (by rfl) (by assumption) ?_
  simp only [Act.put, pu1, pu2, pu3]
  (refine tk 33 36 ?_ rfl rfl (by kernel_rfl) (by rfl) ?_ (by assumption) ?_)
  rotate_left
  · (intro W hSW; go_simp; (try with_reducible rfl))
  simp only [Act.put, pu1, pu2, pu3]
  (refine tk 34 37 ?_ rfl rfl (by kernel_rfl) (by rfl) ?_ (by assumption) ?_)
  rotate_left
  · (intro W hSW; go_simp; (try with_reducible rfl))
  simp only [Act.put, pu1, pu2, pu3]
  refine skipW (i := 35) (d := 38) rfl rfl (by kernel_rfl) (by kernel_rfl) (by kernel_rfl) (fun _ _ _ h => h) (by rfl) (by assumption) ?_
  simp only [Act.put, pu1, pu2, pu3]
  refine skipW (i := 36) (d := 39) rfl rfl (by kernel_rfl) (by kernel_rfl) (by kernel_rfl) (fun _ _ _ h => h) (by rfl) (by assumption) ?_
  simp only [Act.put, pu1, pu2, pu3]
  refine skipW (i := 37) (d := 40) rfl rfl (by kernel_rfl) (by kernel_rfl) (by kernel_rfl) (fun _ _ _ h => h) (by rfl) (by assumption) ?_
  simp only [Act.put, pu1, pu2, pu3]
  refine skipW (i := 38) (d := 41) rfl rfl (by kernel_rfl) (by kernel_rfl) (by kernel_rfl) (fun _ _ _ h => h) (by rfl) (by assumption) ?_
  simp only [Act.put, pu1, pu2, pu3]
  refine skipW (i := 39) (d := 42) rfl rfl (by kernel_rfl) (by kernel_rfl) (by kernel_rfl) (fun _ _ _ h => h) (by rfl) (by assumption) ?_
  simp only [Act.put, pu1, pu2, pu3]
  refine skipW (i := 40) (d := 43) rfl rfl (by kernel_rfl) (by kernel_rfl) (by kernel_rfl) (fun _ _ _ h => h) (by rfl) (by assumption) ?_
  simp only [Act.put, pu1, pu2, pu3]
  refine skipW (i := 41) (d := 44) rfl rfl (by kernel_rfl) (by kernel_rfl) (by kernel_rfl) (fun _ _ _ h => h) (by rfl) (by assumption) ?_
  simp only [Act.put, pu1, pu2, pu3]
  (refine tk 42 45 ?_ rfl rfl (by kernel_rfl) (by rfl) ?_ (by assumption) ?_)
  rotate_left
  · (intro W hSW; go_simp; (try with_reducible rfl))
  simp only [Act.put, pu1, pu2, pu3]
  (refine tk 43 2 ?_ rfl rfl (by kernel_rfl) (by rfl) ?_ (by assumption) ?_)
  rotate_left
  · (intro W hSW; go_simp; (try with_reducible rfl))
  simp only [Act.put, pu1, pu2, pu3]
  refine wpAnyH_done (by kernel_rfl) ?_ _
  refine NoPanic.normal ?_
  go_wp2_with fail
  go_ret
  exact ⟨by first | rfl | simp | simp_all, Ev.bt HB.out (by first | with_reducible assumption | exact Ev.bdn (Ev.br _) _ | exact Ev.bd1 (Ev.br _) | exact Ev.br _)⟩
 cases h4 : inB x.wi 0 20
 case false =>
  go_enter Tryz.func24, Tryz.ntmps24
  go_upto_region 1 with fail
  generalize World.alloc w _ = w0 at HX HB ⊢
  have hK := hid (fun W (k : Below w0.heap.size w0 W) => at_pl (HX.out.below k))
  refine wp_region_noPanic ?_
  refine wp_region_held_drew (S := (fun W => Below w0.heap.size w0 W)) (by kernel_rfl) (by first | exact Ev.bd1 (Ev.br _) | exact Ev.bdn (Ev.br _) _ | exact Ev.br _) (fun hHeld => ?_)
  (refine tk 0 3 ?_ rfl rfl (by kernel_rfl) (by rfl) ?_ (by assumption) ?_)
  rotate_left
  · (intro W hSW; go_simp; (try with_reducible rfl))
  simp only [Act.put, pu1, pu2, pu3]
  (refine tk 1 4 ?_ rfl rfl (by kernel_rfl) (by rfl) ?_ (by assumption) ?_)
  rotate_left
  · (intro W hSW; have hSW2 := hK.out W hSW; go_simp; (try with_reducible rfl))
  simp only [Act.put, pu1, pu2, pu3]
  refine wpAnyH_ready (rs := [2]) (by kernel_rfl) (by simp) ?_
  refine AllReadyH.cons (i := 2) rfl (fun K hKK => ?_) AllReadyH.nil
  go_simp
  ((refine (within_c _ _ _ _).mono ?_); rintro e w' ⟨rfl, rfl⟩; rw [h1])
  dsimp only
  refine hKK.out _ _ (show Below w0.heap.size w0 _ by first | with_reducible assumption | exact Ev.bdn (Ev.br _) _ | exact Ev.bd1 (Ev.br _) | exact Ev.br _) (fun hHeld => ?_)
  clear hKK K
  (try simp only [Act.put, pu1, pu2, pu3])
  (refine tk 3 6 ?_ rfl rfl (by kernel_rfl) (by rfl) ?_ (by assumption) ?_)
  rotate_left
  · (intro W hSW; go_simp; (try with_reducible rfl))
  simp only [Act.put, pu1, pu2, pu3]
  (refine tk 4 7 ?_ rfl rfl (by kernel_rfl) (by rfl) ?_ (by assumption) ?_)
  rotate_left
  · (intro W hSW; go_simp; (try with_reducible rfl))
  simp only [Act.put, pu1, pu2, pu3]
  (refine tk 5 8 ?_ rfl rfl (by kernel_rfl) (by rfl) ?_ (by assumption) ?_)
  rotate_left
  · (intro W hSW; have hSW2 := hK.out W hSW; go_simp; (try with_reducible rfl))
  simp only [Act.put, pu1, pu2, pu3]
  refine wpAnyH_ready (rs := [6]) (by kernel_rfl) (by simp) ?_
  refine AllReadyH.cons (i := 6) rfl (fun K hKK => ?_) AllReadyH.nil
  go_simp
  ((refine (within_c _ _ _ _).mono ?_); rintro e w' ⟨rfl, rfl⟩; rw [h2])
  dsimp only
  refine hKK.out _ _ (show Below w0.heap.size w0 _ by first | with_reducible assumption | exact Ev.bdn (Ev.br _) _ | exact Ev.bd1 (Ev.br _) | exact Ev.br _) (fun hHeld => ?_)
  clear hKK K
  (try simp only [Act.put, pu1, pu2, pu3])
  (refine tk 7 10 ?_ rfl rfl (by kernel_rfl) (by rfl) ?_ (by assumption) ?_)
  rotate_left
  · (intro W hSW; go_simp; (try with_reducible rfl))
  simp only [Act.put, pu1, pu2, pu3]
  (refine tk 8 11 ?_ rfl rfl (by kernel_rfl) (by rfl) ?_ (by assumption) ?_)
  rotate_left
  · (intro W hSW; go_simp; (try with_reducible rfl))
  simp only [Act.put, pu1, pu2, pu3]
  (refine tk 9 12 ?_ rfl rfl (by kernel_rfl) (by rfl) ?_ (by assumption) ?_)
  rotate_left
  · (intro W hSW; go_simp; (try with_reducible rfl))
  simp only [Act.put, pu1, pu2, pu3]
  (refine tk 10 13 ?_ rfl rfl (by kernel_rfl) (by rfl) ?_ (by assumption) ?_)
  rotate_left
  · (intro W hSW; have hSW2 := hK.out W hSW; go_simp; (try with_reducible rfl))
  simp only [Act.put, pu1, pu2, pu3]
  refine wpAnyH_ready (rs := [11]) (by kernel_rfl) (by simp) ?_
  refine AllReadyH.cons (i := 11) rfl (fun K hKK => ?_) AllReadyH.nil
  go_simp
  ((refine (within_c _ _ _ _).mono ?_); rintro e w' ⟨rfl, rfl⟩; rw [h3])
  dsimp only
  refine hKK.out _ _ (show Below w0.heap.size w0 _ by first | with_reducible assumption | exact Ev.bdn (Ev.br _) _ | exact Ev.bd1 (Ev.br _) | exact Ev.br _) (fun hHeld => ?_)
  clear hKK K
  (try simp only [Act.put, pu1, pu2, pu3])
  (refine tk 12 15 ?_ rfl rfl (by kernel_rfl) (by rfl) ?_ (by assumption) ?_)
  rotate_left
  · (intro W hSW; go_simp; (try with_reducible rfl))
  simp only [Act.put, pu1, pu2, pu3]
  (refine tk 13 16 ?_ rfl rfl (by kernel_rfl) (by rfl) ?_ (by assumption) ?_)
  rotate_left
  · (intro W hSW; go_simp; (try with_reducible rfl))
  simp only [Act.put, pu1, pu2, pu3]
  (refine tk 14 17 ?_ rfl rfl (by kernel_rfl) (by rfl) ?_ (by assumption) ?_)
  rotate_left
  · (intro W hSW; go_simp; (try with_reducible rfl))
  simp only [Act.put, pu1, pu2, pu3]
  (refine tk 15 18 ?_ rfl rfl (by kernel_rfl) (by rfl) ?_ (by assumption) ?_)
  rotate_left
  · (intro W hSW; have hSW2 := hK.out W hSW; go_simp; (try with_reducible rfl))
  simp only [Act.put, pu1, pu2, pu3]
  refine wpAnyH_ready (rs := [16]) (by kernel_rfl) (by simp) ?_
  refine AllReadyH.cons (i := 16) rfl (fun K hKK => ?_) AllReadyH.nil
  go_simp
  ((refine (within_c _ _ _ _).mono ?_); rintro e w' ⟨rfl, rfl⟩; rw [h4])
  dsimp only
  refine hKK.out _ _ (show Below w0.heap.size w0 _ by first | with_reducible assumption | exact Ev.bdn (Ev.br _) _ | exact Ev.bd1 (Ev.br _) | exact Ev.br _) (fun hHeld => ?_)
  clear hKK K
  (try simp only [Act.put, pu1, pu2, pu3])
  (refine tk 17 20 ?_ rfl rfl (by kernel_rfl) (by rfl) ?_ (by assumption) ?_)
  rotate_left
  · (intro W hSW; go_simp; (try with_reducible rfl))
  simp only [Act.put, pu1, pu2, pu3]
  (refine tk 18 21 ?_ rfl rfl (by kernel_rfl) (by rfl) ?_ (by assumption) ?_)
  rotate_left
  · (intro W hSW; go_simp; (try with_reducible rfl))
  simp only [Act.put, pu1, pu2, pu3]
  refine skipW (i := 19) (d := 22) rfl rfl (by kernel_rfl) (by kernel_rfl) (by kernel_rfl) (fun _ _ _ h => h) (by rfl) (by assumption) ?_
  simp only [Act.put, pu1, pu2, pu3]
  refine skipW (i := 20) (d := 23) rfl rfl (by kernel_rfl) (by kernel_rfl) (by kernel_rfl) (fun _ _ _ h => h) (by rfl) (by assumption) ?_
  simp only [Act.put, pu1, pu2, pu3]
  refine skipW (i := 21) (d := 24) rfl rfl (by kernel_rfl) (by kernel_rfl) (by kernel_rfl) (fun _ _ _ h => h) (by rfl) (by assumption) ?_
  simp only [Act.put, pu1, pu2, pu3]
  (refine tk 22 25 ?_ rfl rfl (by kernel_rfl) (by rfl) ?_ (by assumption) ?_)
  rotate_left
  · (intro W hSW; go_simp; (try with_reducible rfl))
  simp only [Act.put, pu1, pu2, pu3]
  (refine tk 23 26 ?_ rfl rfl (by kernel_rfl) (by rfl) ?_ (by assumption) ?_)
  rotate_left
  · (intro W hSW; go_simp; (try with_reducible rfl))
  simp only [Act.put, pu1, pu2, pu3]
  refine skipW (i := 24) (d := 27) rfl rfl (by kernel_rfl) (by kernel_rfl) (by kernel_rfl) (fun _ _ _ h => h) (by rfl) (by assumption) ?_
  simp only [Act.put, pu1, pu2, pu3]
  refine skipW (i := 25) (d := 28) rfl rfl (by kernel_rfl) (by kernel_rfl) (by kernel_rfl) (fun _ _ _ h => h) (by rfl) (by assumption) ?_
  simp only [Act.put, pu1, pu2, pu3]
  refine skipW (i := 26) (d := 29) rfl rfl (by kernel_rfl) (by kernel_rfl) (by kernel_rfl) (fun _ _ _ h => h) (by rfl) (by assumption) ?_
  simp only [Act.put, pu1, pu2, pu3]
  (refine tk 27 30 ?_ rfl rfl (by kernel_rfl) (by rfl) ?_ (by assumption) ?_)
  rotate_left
  · (intro W hSW; go_simp; (try with_reducible rfl))
  simp only [Act.put, pu1, pu2, pu3]
  (refine tk 28 31 ?_ rfl rfl (by kernel_rfl) (by rfl) ?_ (by assumption) ?_)
  rotate_left
  · (intro W hSW; go_simp; (try with_reducible rfl))
  simp only [Act.put, pu1, pu2, pu3]
  refine skipW (i := 29) (d := 32) rfl rfl (by kernel_rfl) (by kernel_rfl) (by kernel_rfl) (fun _ _ _ h => h) (by rfl) (by assumption) ?_
  simp only [Act.put, pu1, pu2, pu3]
  refine skipW (i := 30) (d := 33) rfl rfl (by kernel_rfl) (by kernel_rfl) (by kernel_rfl) (fun _ _ _ h => h) (by rfl) (by assumption) ?_
  simp only [Act.put, pu1, pu2, pu3]
  refine skipW (i := 31) (d := 34) rfl rfl (by kernel_rfl) (by kernel_rfl) (by kernel_rfl) (fun _ _ _ h => h) (by rfl) (by assumption) ?_
  simp only [Act.put, pu1, pu2, pu3]
  refine skipW (i := 32) (d := 35) rfl rfl (by kernel_rfl) (by kernel_rfl) (by kernel_rfl) (fun _ _ _ h => h) (by rfl) (by assumption) ?_
  simp only [Act.put, pu1, pu2, pu3]
  (refine tk 33 36 ?_ rfl rfl (by kernel_rfl) (by rfl) ?_ (by assumption) ?_)
  rotate_left
  · (intro W hSW; go_simp; (try with_reducible rfl))
  simp only [Act.put, pu1, pu2, pu3]
  (refine tk 34 37 ?_ rfl rfl (by kernel_rfl) (by rfl) ?_ (by assumption) ?_)
  rotate_left
  · (intro W hSW; go_simp; (try with_reducible rfl))
  simp only [Act.put, pu1, pu2, pu3]
  refine skipW (i := 35) (d := 38) rfl rfl (by kernel_rfl) (by kernel_rfl) (by kernel_rfl) (fun _ _ _ h => h) (by rfl) (by assumption) ?_
  simp only [Act.put, pu1, pu2, pu3]
  refine skipW (i := 36) (d := 39) rfl rfl (by kernel_rfl) (by kernel_rfl) (by kernel_rfl) (fun _ _ _ h => h) (by rfl) (by assumption) ?_
  simp only [Act.put, pu1, pu2, pu3]
  refine skipW (i := 37) (d := 40) rfl rfl (by kernel_rfl) (by kernel_rfl) (by kernel_rfl) (fun _ _ _ h => h) (by rfl) (by assumption) ?_
  simp only [Act.put, pu1, pu2, pu3]
  refine skipW (i := 38) (d := 41) rfl rfl (by kernel_rfl) (by kernel_rfl) (by kernel_rfl) (fun _ _ _ h => h) (by rfl) (by assumption) ?_
  simp only [Act.put, pu1, pu2, pu3]
  refine skipW (i := 39) (d := 42) rfl rfl (by kernel_rfl) (by kernel_rfl) (by kernel_rfl) (fun _ _ _ h => h) (by rfl) (by assumption) ?_
  simp only [Act.put, pu1, pu2, pu3]
  refine skipW (i := 40) (d := 43) rfl rfl (by kernel_rfl) (by kernel_rfl) (by kernel_rfl) (fun _ _ _ h => h) (by rfl) (by assumption) ?_
  simp only [Act.put, pu1, pu2, pu3]
  refine skipW (i := 41) (d := 44) rfl rfl (by kernel_rfl) (by kernel_rfl) (by kernel_rfl) (fun _ _ _ h => h) (by rfl) (by assumption) ?_
  simp only [Act.put, pu1, pu2, pu3]
  (refine tk 42 45 ?_ rfl rfl (by kernel_rfl) (by rfl) ?_ (by assumption) ?_)
  rotate_left
  · (intro W hSW; go_simp; (try with_reducible rfl))
  simp only [Act.put, pu1, pu2, pu3]
  (refine tk 43 2 ?_ rfl rfl (by kernel_rfl) (by rfl) ?_ (by assumption) ?_)
  rotate_left
  · (intro W hSW; go_simp; (try with_reducible rfl))
  simp only [Act.put, pu1, pu2, pu3]
  refine wpAnyH_done (by kernel_rfl) ?_ _
  refine NoPanic.normal ?_
  go_wp2_with fail
  go_ret
  exact ⟨by first | rfl | simp | simp_all, Ev.bt HB.out (by first | with_reducible assumption | exact Ev.bdn (Ev.br _) _ | exact Ev.bd1 (Ev.br _) | exact Ev.br _)⟩
 cases h5 : inB x.dn 0 30
 case false =>
  go_enter Tryz.func24, Tryz.ntmps24
  go_upto_region 1 with fail
  generalize World.alloc w _ = w0 at HX HB ⊢
  have hK := hid (fun W (k : Below w0.heap.size w0 W) => at_pl (HX.out.below k))
  refine wp_region_noPanic ?_
  refine wp_region_held_drew (S := (fun W => Below w0.heap.size w0 W)) (by kernel_rfl) (by first | exact Ev.bd1 (Ev.br _) | exact Ev.bdn (Ev.br _) _ | exact Ev.br _) (fun hHeld => ?_)
  (refine tk 0 3 ?_ rfl rfl (by kernel_rfl) (by rfl) ?_ (by assumption) ?_)
  rotate_left
  · (intro W hSW; go_simp; (try with_reducible rfl))
  simp only [Act.put, pu1, pu2, pu3]
  (refine tk 1 4 ?_ rfl rfl (by kernel_rfl) (by rfl) ?_ (by assumption) ?_)
  rotate_left
  · (intro W hSW; have hSW2 := hK.out W hSW; go_simp; (try with_reducible rfl))
  simp only [Act.put, pu1, pu2, pu3]
  refine wpAnyH_ready (rs := [2]) (by kernel_rfl) (by simp) ?_
  refine AllReadyH.cons (i := 2) rfl (fun K hKK => ?_) AllReadyH.nil
  go_simp
  ((refine (within_c _ _ _ _).mono ?_); rintro e w' ⟨rfl, rfl⟩; rw [h1])
  dsimp only
  refine hKK.out _ _ (show Below w0.heap.size w0 _ by first | with_reducible assumption | exact Ev.bdn (Ev.br _) _ | exact Ev.bd1 (Ev.br _) | exact Ev.br _) (fun hHeld => ?_)
  clear hKK K
  (try simp only [Act.put, pu1, pu2, pu3])
  (refine tk 3 6 ?_ rfl rfl (by kernel_rfl) (by rfl) ?_ (by assumption) ?_)
  rotate_left
  · (intro W hSW; go_simp; (try with_reducible rfl))
  simp only [Act.put, pu1, pu2, pu3]
  (refine tk 4 7 ?_ rfl rfl (by kernel_rfl) (by rfl) ?_ (by assumption) ?_)
  rotate_left
  · (intro W hSW; go_simp; (try with_reducible rfl))
  simp only [Act.put, pu1, pu2, pu3]
  (refine tk 5 8 ?_ rfl rfl (by kernel_rfl) (by rfl) ?_ (by assumption) ?_)
  rotate_left
  · (intro W hSW; have hSW2 := hK.out W hSW; go_simp; (try with_reducible rfl))
  simp only [Act.put, pu1, pu2, pu3]
  refine wpAnyH_ready (rs := [6]) (by kernel_rfl) (by simp) ?_
  refine AllReadyH.cons (i := 6) rfl (fun K hKK => ?_) AllReadyH.nil
  go_simp
  ((refine (within_c _ _ _ _).mono ?_); rintro e w' ⟨rfl, rfl⟩; rw [h2])
  dsimp only
  refine hKK.out _ _ (show Below w0.heap.size w0 _ by first | with_reducible assumption | exact Ev.bdn (Ev.br _) _ | exact Ev.bd1 (Ev.br _) | exact Ev.br _) (fun hHeld => ?_)
  clear hKK K
  (try simp only [Act.put, pu1, pu2, pu3])
  (refine tk 7 10 ?_ rfl rfl (by kernel_rfl) (by rfl) ?_ (by assumption) ?_)
  rotate_left
  · (intro W hSW; go_simp; (try with_reducible rfl))
  simp only [Act.put, pu1, pu2, pu3]
  (refine tk 8 11 ?_ rfl rfl (by kernel_rfl) (by rfl) ?_ (by assumption) ?_)
  rotate_left
  · (intro W hSW; go_simp; (try with_reducible rfl))
  simp only [Act.put, pu1, pu2, pu3]
  (refine tk 9 12 ?_ rfl rfl (by kernel_rfl) (by rfl) ?_ (by assumption) ?_)
  rotate_left
  · (intro W hSW; go_simp; (try with_reducible rfl))
  simp only [Act.put, pu1, pu2, pu3]
  (refine tk 10 13 ?_ rfl rfl (by kernel_rfl) (by rfl) ?_ (by assumption) ?_)
  rotate_left
  · (intro W hSW; have hSW2 := hK.out W hSW; go_simp; (try with_reducible rfl))
  simp only [Act.put, pu1, pu2, pu3]
  refine wpAnyH_ready (rs := [11]) (by kernel_rfl) (by simp) ?_
  refine AllReadyH.cons (i := 11) rfl (fun K hKK => ?_) AllReadyH.nil
  go_simp
  ((refine (within_c _ _ _ _).mono ?_); rintro e w' ⟨rfl, rfl⟩; rw [h3])
  dsimp only
  refine hKK.out _ _ (show Below w0.heap.size w0 _ by first | with_reducible assumption | exact Ev.bdn (Ev.br _) _ | exact Ev.bd1 (Ev.br _) | exact Ev.br _) (fun hHeld => ?_)
  clear hKK K
  (try simp only [Act.put, pu1, pu2, pu3])
  (refine tk 12 15 ?_ rfl rfl (by kernel_rfl) (by rfl) ?_ (by assumption) ?_)
  rotate_left
  · (intro W hSW; go_simp; (try with_reducible rfl))
  simp only [Act.put, pu1, pu2, pu3]
  (refine tk 13 16 ?_ rfl rfl (by kernel_rfl) (by rfl) ?_ (by assumption) ?_)
  rotate_left
  · (intro W hSW; go_simp; (try with_reducible rfl))
  simp only [Act.put, pu1, pu2, pu3]
  (refine tk 14 17 ?_ rfl rfl (by kernel_rfl) (by rfl) ?_ (by assumption) ?_)
  rotate_left
  · (intro W hSW; go_simp; (try with_reducible rfl))
  simp only [Act.put, pu1, pu2, pu3]
  (refine tk 15 18 ?_ rfl rfl (by kernel_rfl) (by rfl) ?_ (by assumption) ?_)
  rotate_left
  · (intro W hSW; have hSW2 := hK.out W hSW; go_simp; (try with_reducible rfl))
  simp only [Act.put, pu1, pu2, pu3]
  refine wpAnyH_ready (rs := [16]) (by kernel_rfl) (by simp) ?_
  refine AllReadyH.cons (i := 16) rfl (fun K hKK => ?_) AllReadyH.nil
  go_simp
  ((refine (within_c _ _ _ _).mono ?_); rintro e w' ⟨rfl, rfl⟩; rw [h4])
  dsimp only
  refine hKK.out _ _ (show Below w0.heap.size w0 _ by first | with_reducible assumption | exact Ev.bdn (Ev.br _) _ | exact Ev.bd1 (Ev.br _) | exact Ev.br _) (fun hHeld => ?_)
  clear hKK K
  (try simp only [Act.put, pu1, pu2, pu3])
  (refine tk 17 20 ?_ rfl rfl (by kernel_rfl) (by rfl) ?_ (by assumption) ?_)
  rotate_left
  · (intro W hSW; go_simp; (try with_reducible rfl))
  simp only [Act.put, pu1, pu2, pu3]
  (refine tk 18 21 ?_ rfl rfl (by kernel_rfl) (by rfl) ?_ (by assumption) ?_)
  rotate_left
  · (intro W hSW; go_simp; (try with_reducible rfl))
  simp only [Act.put, pu1, pu2, pu3]
  (refine tk 19 22 ?_ rfl rfl (by kernel_rfl) (by rfl) ?_ (by assumption) ?_)
  rotate_left
  · (intro W hSW; go_simp; (try with_reducible rfl))
  simp only [Act.put, pu1, pu2, pu3]
  (refine tk 20 23 ?_ rfl rfl (by kernel_rfl) (by rfl) ?_ (by assumption) ?_)
  rotate_left
  · (intro W hSW; have hSW2 := hK.out W hSW; go_simp; (try with_reducible rfl))
  simp only [Act.put, pu1, pu2, pu3]
  refine wpAnyH_ready (rs := [21]) (by kernel_rfl) (by simp) ?_
  refine AllReadyH.cons (i := 21) rfl (fun K hKK => ?_) AllReadyH.nil
  go_simp
  ((refine (within_c _ _ _ _).mono ?_); rintro e w' ⟨rfl, rfl⟩; rw [h5])
  dsimp only
  refine hKK.out _ _ (show Below w0.heap.size w0 _ by first | with_reducible assumption | exact Ev.bdn (Ev.br _) _ | exact Ev.bd1 (Ev.br _) | exact Ev.br _) (fun hHeld => ?_)
  clear hKK K
  (try simp only [Act.put, pu1, pu2, pu3])
  (refine tk 22 25 ?_ rfl rfl (by kernel_rfl) (by rfl) ?_ (by assumption) ?_)
  rotate_left
  · (intro W hSW; go_simp; (try with_reducible rfl))
  simp only [Act.put, pu1, pu2, pu3]
  (refine tk 23 26 ?_ rfl rfl (by kernel_rfl) (by rfl) ?_ (by assumption) ?_)
  rotate_left
  · (intro W hSW; go_simp; (try with_reducible rfl))
  simp only [Act.put, pu1, pu2, pu3]
  refine skipW (i := 24) (d := 27) rfl rfl (by kernel_rfl) (by kernel_rfl) (by kernel_rfl) (fun _ _ _ h => h) (by rfl) (by assumption) ?_
  simp only [Act.put, pu1, pu2, pu3]
  refine skipW (i := 25) (d := 28) rfl rfl (by kernel_rfl) (by kernel_rfl) (by kernel_rfl) (fun _ _ _ h => h) (by rfl) (by assumption) ?_
  simp only [Act.put, pu1, pu2, pu3]
  refine skipW (i := 26) (d := 29) rfl rfl (by kernel_rfl) (by kernel_rfl) (by kernel_rfl) (fun _ _ _ h => h) (by rfl) (by assumption) ?_
  simp only [Act.put, pu1, pu2, pu3]
  (refine tk 27 30 ?_ rfl rfl (by kernel_rfl) (by rfl) ?_ (by assumption) ?_)
  rotate_left
  · (intro W hSW; go_simp; (try with_reducible rfl))
  simp only [Act.put, pu1, pu2, pu3]
  (refine tk 28 31 ?_ rfl rfl (by kernel_rfl) (by rfl) ?_ (by assumption) ?_)
  rotate_left
  · (intro W hSW; go_simp; (try with_reducible rfl))
  simp only [Act.put, pu1, pu2, pu3]
  refine skipW (i := 29) (d := 32) rfl rfl (by kernel_rfl) (by kernel_rfl) (by kernel_rfl) (fun _ _ _ h => h) (by rfl) (by assumption) ?_
  simp only [Act.put, pu1, pu2, pu3]
  refine skipW (i := 30) (d := 33) rfl rfl (by kernel_rfl) (by kernel_rfl) (by kernel_rfl) (fun _ _ _ h => h) (by rfl) (by assumption) ?_
  simp only [Act.put, pu1, pu2, pu3]
  refine skipW (i := 31) (d := 34) rfl rfl (by kernel_rfl) (by kernel_rfl) (by kernel_rfl) (fun _ _ _ h => h) (by rfl) (by assumption) ?_
  simp only [Act.put, pu1, pu2, pu3]
  refine skipW (i := 32) (d := 35) rfl rfl (by kernel_rfl) (by kernel_rfl) (by kernel_rfl) (fun _ _ _ h => h) (by rfl) (by assumption) ?_
  simp only [Act.put, pu1, pu2, pu3]
  (refine tk 33 36 ?_ rfl rfl (by kernel_rfl) (by rfl) ?_ (by assumption) ?_)
  rotate_left
  · (intro W hSW; go_simp; (try with_reducible rfl))
  simp only [Act.put, pu1, pu2, pu3]
  (refine tk 34 37 ?_ rfl rfl (by kernel_rfl) (by rfl) ?_ (by assumption) ?_)
  rotate_left
  · (intro W hSW; go_simp; (try with_reducible rfl))
  simp only [Act.put, pu1, pu2, pu3]
  refine skipW (i := 35) (d := 38) rfl rfl (by kernel_rfl) (by kernel_rfl) (by kernel_rfl) (fun _ _ _ h => h) (by rfl) (by assumption) ?_
  simp only [Act.put, pu1, pu2, pu3]
  refine skipW (i := 36) (d := 39) rfl rfl (by kernel_rfl) (by kernel_rfl) (by kernel_rfl) (fun _ _ _ h => h) (by rfl) (by assumption) ?_
  simp only [Act.put, pu1, pu2, pu3]
  refine skipW (i := 37) (d := 40) rfl rfl (by kernel_rfl) (by kernel_rfl) (by kernel_rfl) (fun _ _ _ h => h) (by rfl) (by assumption) ?_
  simp only [Act.put, pu1, pu2, pu3]
  refine skipW (i := 38) (d := 41) rfl rfl (by kernel_rfl) (by kernel_rfl) (by kernel_rfl) (fun _ _ _ h => h) (by rfl) (by assumption) ?_
  simp only [Act.put, pu1, pu2, pu3]
  refine skipW (i := 39) (d := 42) rfl rfl (by kernel_rfl) (by kernel_rfl) (by kernel_rfl) (fun _ _ _ h => h) (by rfl) (by assumption) ?_
  simp only [Act.put, pu1, pu2, pu3]
  refine skipW (i := 40) (d := 43) rfl rfl (by kernel_rfl) (by kernel_rfl) (by kernel_rfl) (fun _ _ _ h => h) (by rfl) (by assumption) ?_
  simp only [Act.put, pu1, pu2, pu3]
  refine skipW (i := 41) (d := 44) rfl rfl (by kernel_rfl) (by kernel_rfl) (by kernel_rfl) (fun _ _ _ h => h) (by rfl) (by assumption) ?_
  simp only [Act.put, pu1, pu2, pu3]
  (refine tk 42 45 ?_ rfl rfl (by kernel_rfl) (by rfl) ?_ (by assumption) ?_)
  rotate_left
  · (intro W hSW; go_simp; (try with_reducible rfl))
  simp only [Act.put, pu1, pu2, pu3]
  (refine tk 43 2 ?_ rfl rfl (by kernel_rfl) (by rfl) ?_ (by assumption) ?_)
  rotate_left
  · (intro W hSW; go_simp; (try with_reducible rfl))
  simp only [Act.put, pu1, pu2, pu3]
  refine wpAnyH_done (by kernel_rfl) ?_ _
  refine NoPanic.normal ?_
  go_wp2_with fail
  go_ret
  exact ⟨by first | rfl | simp | simp_all, Ev.bt HB.out (by first | with_reducible assumption | exact Ev.bdn (Ev.br _) _ | exact Ev.bd1 (Ev.br _) | exact Ev.br _)⟩
 cases h6 : inB x.sc 0 2
 case false =>
  go_enter Tryz.func24, Tryz.ntmps24
  go_upto_region 1 with fail
  generalize World.alloc w _ = w0 at HX HB ⊢
  have hK := hid (fun W (k : Below w0.heap.size w0 W) => at_pl (HX.out.below k))
  refine wp_region_noPanic ?_
  refine wp_region_held_drew (S := (fun W => Below w0.heap.size w0 W)) (by kernel_rfl) (by first | exact Ev.bd1 (Ev.br _) | exact Ev.bdn (Ev.br _) _ | exact Ev.br _) (fun hHeld => ?_)
  (refine tk 0 3 ?_ rfl rfl (by kernel_rfl) (by rfl) ?_ (by assumption) ?_)
  rotate_left
  · (intro W hSW; go_simp; (try with_reducible rfl))
  simp only [Act.put, pu1, pu2, pu3]
  (refine tk 1 4 ?_ rfl rfl (by kernel_rfl) (by rfl) ?_ (by assumption) ?_)
  rotate_left
  · (intro W hSW; have hSW2 := hK.out W hSW; go_simp; (try with_reducible rfl))
  simp only [Act.put, pu1, pu2, pu3]
  refine wpAnyH_ready (rs := [2]) (by kernel_rfl) (by simp) ?_
  refine AllReadyH.cons (i := 2) rfl (fun K hKK => ?_) AllReadyH.nil
  go_simp
  ((refine (within_c _ _ _ _).mono ?_); rintro e w' ⟨rfl, rfl⟩; rw [h1])
  dsimp only
  refine hKK.out _ _ (show Below w0.heap.size w0 _ by first | with_reducible assumption | exact Ev.bdn (Ev.br _) _ | exact Ev.bd1 (Ev.br _) | exact Ev.br _) (fun hHeld => ?_)
  clear hKK K
  (try simp only [Act.put, pu1, pu2, pu3])
  (refine tk 3 6 ?_ rfl rfl (by kernel_rfl) (by rfl) ?_ (by assumption) ?_)
  rotate_left
  · (intro W hSW; go_simp; (try with_reducible rfl))
  simp only [Act.put, pu1, pu2, pu3]
  (refine tk 4 7 ?_ rfl rfl (by kernel_rfl) (by rfl) ?_ (by assumption) ?_)
  rotate_left
  · (intro W hSW; go_simp; (try with_reducible rfl))
  simp only [Act.put, pu1, pu2, pu3]
  (refine tk 5 8 ?_ rfl rfl (by kernel_rfl) (by rfl) ?_ (by assumption) ?_)
  rotate_left
  · (intro W hSW; have hSW2 := hK.out W hSW; go_simp; (try with_reducible rfl))
  simp only [Act.put, pu1, pu2, pu3]
  refine wpAnyH_ready (rs := [6]) (by kernel_rfl) (by simp) ?_
  refine AllReadyH.cons (i := 6) rfl (fun K hKK => ?_) AllReadyH.nil
  go_simp
  ((refine (within_c _ _ _ _).mono ?_); rintro e w' ⟨rfl, rfl⟩; rw [h2])
  dsimp only
  refine hKK.out _ _ (show Below w0.heap.size w0 _ by first | with_reducible assumption | exact Ev.bdn (Ev.br _) _ | exact Ev.bd1 (Ev.br _) | exact Ev.br _) (fun hHeld => ?_)
  clear hKK K
  (try simp only [Act.put, pu1, pu2, pu3])
  (refine tk 7 10 ?_ rfl rfl (by kernel_rfl) (by rfl) ?_ (by assumption) ?_)
  rotate_left
  · (intro W hSW; go_simp; (try with_reducible rfl))
  simp only [Act.put, pu1, pu2, pu3]
  (refine tk 8 11 ?_ rfl rfl (by kernel_rfl) (by rfl) ?_ (by assumption) ?_)
  rotate_left
  · (intro W hSW; go_simp; (try with_reducible rfl))
  simp only [Act.put, pu1, pu2, pu3]
  (refine tk 9 12 ?_ rfl rfl (by kernel_rfl) (by rfl) ?_ (by assumption) ?_)
  rotate_left
  · (intro W hSW; go_simp; (try with_reducible rfl))
  simp only [Act.put, pu1, pu2, pu3]
  (refine tk 10 13 ?_ rfl rfl (by kernel_rfl) (by rfl) ?_ (by assumption) ?_)
  rotate_left
  · (intro W hSW; have hSW2 := hK.out W hSW; go_simp; (try with_reducible rfl))
  simp only [Act.put, pu1, pu2, pu3]
  refine wpAnyH_ready (rs := [11]) (by kernel_rfl) (by simp) ?_
  refine AllReadyH.cons (i := 11) rfl (fun K hKK => ?_) AllReadyH.nil
  go_simp
  ((refine (within_c _ _ _ _).mono ?_); rintro e w' ⟨rfl, rfl⟩; rw [h3])
  dsimp only
  refine hKK.out _ _ (show Below w0.heap.size w0 _ by first | with_reducible assumption | exact Ev.bdn (Ev.br _) _ | exact Ev.bd1 (Ev.br _) | exact Ev.br _) (fun hHeld => ?_)
  clear hKK K
  (try simp only [Act.put, pu1, pu2, pu3])
  (refine tk 12 15 ?_ rfl rfl (by kernel_rfl) (by rfl) ?_ (by assumption) ?_)
  rotate_left
  · (intro W hSW; go_simp; (try with_reducible rfl))
  simp only [Act.put, pu1, pu2, pu3]
  (refine tk 13 16 ?_ rfl rfl (by kernel_rfl) (by rfl) ?_ (by assumption) ?_)
  rotate_left
  · (intro W hSW; go_simp; (try with_reducible rfl))
  simp only [Act.put, pu1, pu2, pu3]
  (refine tk 14 17 ?_ rfl rfl (by kernel_rfl) (by rfl) ?_ (by assumption) ?_)
  rotate_left
  · (intro W hSW; go_simp; (try with_reducible rfl))
  simp only [Act.put, pu1, pu2, pu3]
  (refine tk 15 18 ?_ rfl rfl (by kernel_rfl) (by rfl) ?_ (by assumption) ?_)
  rotate_left
  · (intro W hSW; have hSW2 := hK.out W hSW; go_simp; (try with_reducible rfl))
  simp only [Act.put, pu1, pu2, pu3]
  refine wpAnyH_ready (rs := [16]) (by kernel_rfl) (by simp) ?_
  refine AllReadyH.cons (i := 16) rfl (fun K hKK => ?_) AllReadyH.nil
  go_simp
  ((refine (within_c _ _ _ _).mono ?_); rintro e w' ⟨rfl, rfl⟩; rw [h4])
  dsimp only
  refine hKK.out _ _ (show Below w0.heap.size w0 _ by first | with_reducible assumption | exact Ev.bdn (Ev.br _) _ | exact Ev.bd1 (Ev.br _) | exact Ev.br _) (fun hHeld => ?_)
  clear hKK K
  (try simp only [Act.put, pu1, pu2, pu3])
  (refine tk 17 20 ?_ rfl rfl (by kernel_rfl) (by rfl) ?_ (by assumption) ?_)
  rotate_left
  · (intro W hSW; go_simp; (try with_reducible rfl))
  simp only [Act.put, pu1, pu2, pu3]
  (refine tk 18 21 ?_ rfl rfl (by kernel_rfl) (by rfl) ?_ (by assumption) ?_)
  rotate_left
  · (intro W hSW; go_simp; (try with_reducible rfl))
  simp only [Act.put, pu1, pu2, pu3]
  (refine tk 19 22 ?_ rfl rfl (by kernel_rfl) (by rfl) ?_ (by assumption) ?_)
  rotate_left
  · (intro W hSW; go_simp; (try with_reducible rfl))
  simp only [Act.put, pu1, pu2, pu3]
  (refine tk 20 23 ?_ rfl rfl (by kernel_rfl) (by rfl) ?_ (by assumption) ?_)
  rotate_left
  · (intro W hSW; have hSW2 := hK.out W hSW; go_simp; (try with_reducible rfl))
  simp only [Act.put, pu1, pu2, pu3]
  refine wpAnyH_ready (rs := [21]) (by kernel_rfl) (by simp) ?_
  refine AllReadyH.cons (i := 21) rfl (fun K hKK => ?_) AllReadyH.nil
  go_simp
  ((refine (within_c _ _ _ _).mono ?_); rintro e w' ⟨rfl, rfl⟩; rw [h5])
  dsimp only
  refine hKK.out _ _ (show Below w0.heap.size w0 _ by first | with_reducible assumption | exact Ev.bdn (Ev.br _) _ | exact Ev.bd1 (Ev.br _) | exact Ev.br _) (fun hHeld => ?_)
  clear hKK K
  (try simp only [Act.put, pu1, pu2, pu3])
  (refine tk 22 25 ?_ rfl rfl (by kernel_rfl) (by rfl) ?_ (by assumption) ?_)
  rotate_left
  · (intro W hSW; go_simp; (try with_reducible rfl))
  simp only [Act.put, pu1, pu2, pu3]
  (refine tk 23 26 ?_ rfl rfl (by kernel_rfl) (by rfl) ?_ (by assumption) ?_)
  rotate_left
  · (intro W hSW; go_simp; (try with_reducible rfl))
  simp only [Act.put, pu1, pu2, pu3]
  (refine tk 24 27 ?_ rfl rfl (by kernel_rfl) (by rfl) ?_ (by assumption) ?_)
  rotate_left
  · (intro W hSW; go_simp; (try with_reducible rfl))
  simp only [Act.put, pu1, pu2, pu3]
  (refine tk 25 28 ?_ rfl rfl (by kernel_rfl) (by rfl) ?_ (by assumption) ?_)
  rotate_left
  · (intro W hSW; have hSW2 := hK.out W hSW; go_simp; (try with_reducible rfl))
  simp only [Act.put, pu1, pu2, pu3]
  refine wpAnyH_ready (rs := [26]) (by kernel_rfl) (by simp) ?_
  refine AllReadyH.cons (i := 26) rfl (fun K hKK => ?_) AllReadyH.nil
  go_simp
  ((refine (within_c _ _ _ _).mono ?_); rintro e w' ⟨rfl, rfl⟩; rw [h6])
  dsimp only
  refine hKK.out _ _ (show Below w0.heap.size w0 _ by first | with_reducible assumption | exact Ev.bdn (Ev.br _) _ | exact Ev.bd1 (Ev.br _) | exact Ev.br _) (fun hHeld => ?_)
  clear hKK K
  (try simp only [Act.put, pu1, pu2, pu3])
  (refine tk 27 30 ?_ rfl rfl (by kernel_rfl) (by rfl) ?_ (by assumption) ?_)
  rotate_left
  · (intro W hSW; go_simp; (try with_reducible rfl))
  simp only [Act.put, pu1, pu2, pu3]
  (refine tk 28 31 ?_ rfl rfl (by kernel_rfl) (by rfl) ?_ (by assumption) ?_)
  rotate_left
  · (intro W hSW; go_simp; (try with_reducible rfl))
  simp only [Act.put, pu1, pu2, pu3]
  refine skipW (i := 29) (d := 32) rfl rfl (by kernel_rfl) (by kernel_rfl) (by kernel_rfl) (fun _ _ _ h => h) (by rfl) (by assumption) ?_
  simp only [Act.put, pu1, pu2, pu3]
  refine skipW (i := 30) (d := 33) rfl rfl (by kernel_rfl) (by kernel_rfl) (by kernel_rfl) (fun _ _ _ h => h) (by rfl) (by assumption) ?_
  simp only [Act.put, pu1, pu2, pu3]
  refine skipW (i := 31) (d := 34) rfl rfl (by kernel_rfl) (by kernel_rfl) (by kernel_rfl) (fun _ _ _ h => h) (by rfl) (by assumption) ?_
  simp only [Act.put, pu1, pu2, pu3]
  refine skipW (i := 32) (d := 35) rfl rfl (by kernel_rfl) (by kernel_rfl) (by kernel_rfl) (fun _ _ _ h => h) (by rfl) (by assumption) ?_
  simp only [Act.put, pu1, pu2, pu3]
  (refine tk 33 36 ?_ rfl rfl (by kernel_rfl) (by rfl) ?_ (by assumption) ?_)
  rotate_left
  · (intro W hSW; go_simp; (try with_reducible rfl))
  simp only [Act.put, pu1, pu2, pu3]
  (refine tk 34 37 ?_ rfl rfl (by kernel_rfl) (by rfl) ?_ (by assumption) ?_)
  rotate_left
  · (intro W hSW; go_simp; (try with_reducible rfl))
  simp only [Act.put, pu1, pu2, pu3]
  refine skipW (i := 35) (d := 38) rfl rfl (by kernel_rfl) (by kernel_rfl) (by kernel_rfl) (fun _ _ _ h => h) (by rfl) (by assumption) ?_
  simp only [Act.put, pu1, pu2, pu3]
  refine skipW (i := 36) (d := 39) rfl rfl (by kernel_rfl) (by kernel_rfl) (by kernel_rfl) (fun _ _ _ h => h) (by rfl) (by assumption) ?_
  simp only [Act.put, pu1, pu2, pu3]
  refine skipW (i := 37) (d := 40) rfl rfl (by kernel_rfl) (by kernel_rfl) (by kernel_rfl) (fun _ _ _ h => h) (by rfl) (by assumption) ?_
  simp only [Act.put, pu1, pu2, pu3]
  refine skipW (i := 38) (d := 41) rfl rfl (by kernel_rfl) (by kernel_rfl) (by kernel_rfl) (fun _ _ _ h => h) (by rfl) (by assumption) ?_
  simp only [Act.put, pu1, pu2, pu3]
  refine skipW (i := 39) (d := 42) rfl rfl (by kernel_rfl) (by kernel_rfl) (by kernel_rfl) (fun _ _ _ h => h) (by rfl) (by assumption) ?_
  simp only [Act.put, pu1, pu2, pu3]
  refine skipW (i := 40) (d := 43) rfl rfl (by kernel_rfl) (by kernel_rfl) (by kernel_rfl) (fun _ _ _ h => h) (by rfl) (by assumption) ?_
  simp only [Act.put, pu1, pu2, pu3]
  refine skipW (i := 41) (d := 44) rfl rfl (by kernel_rfl) (by kernel_rfl) (by kernel_rfl) (fun _ _ _ h => h) (by rfl) (by assumption) ?_
  simp only [Act.put, pu1, pu2, pu3]
  (refine tk 42 45 ?_ rfl rfl (by kernel_rfl) (by rfl) ?_ (by assumption) ?_)
  rotate_left
  · (intro W hSW; go_simp; (try with_reducible rfl))
  simp only [Act.put, pu1, pu2, pu3]
  (refine tk 43 2 ?_ rfl rfl (by kernel_rfl) (by rfl) ?_ (by assumption) ?_)
  rotate_left
  · (intro W hSW; go_simp; (try with_reducible rfl))
  simp only [Act.put, pu1, pu2, pu3]
  refine wpAnyH_done (by kernel_rfl) ?_ _
  refine NoPanic.normal ?_
  go_wp2_with fail
  go_ret
  exact ⟨by first | rfl | simp | simp_all, Ev.bt HB.out (by first | with_reducible assumption | exact Ev.bdn (Ev.br _) _ | exact Ev.bd1 (Ev.br _) | exact Ev.br _)⟩
 cases h7 : insideB (-3932160) (-3932160) 3932160 3932160 x.ax x.ay
 case false =>
  go_enter Tryz.func24, Tryz.ntmps24
  go_upto_region 1 with fail
  generalize World.alloc w _ = w0 at HX HB ⊢
  have hK := hid (fun W (k : Below w0.heap.size w0 W) => at_pl (HX.out.below k))
  refine wp_region_noPanic ?_
  refine wp_region_held_drew (S := (fun W => Below w0.heap.size w0 W)) (by kernel_rfl) (by first | exact Ev.bd1 (Ev.br _) | exact Ev.bdn (Ev.br _) _ | exact Ev.br _) (fun hHeld => ?_)
  (refine tk 0 3 ?_ rfl rfl (by kernel_rfl) (by rfl) ?_ (by assumption) ?_)
  rotate_left
  · (intro W hSW; go_simp; (try with_reducible rfl))
  simp only [Act.put, pu1, pu2, pu3]
  (refine tk 1 4 ?_ rfl rfl (by kernel_rfl) (by rfl) ?_ (by assumption) ?_)
  rotate_left
  · (intro W hSW; have hSW2 := hK.out W hSW; go_simp; (try with_reducible rfl))
  simp only [Act.put, pu1, pu2, pu3]
  refine wpAnyH_ready (rs := [2]) (by kernel_rfl) (by simp) ?_
  refine AllReadyH.cons (i := 2) rfl (fun K hKK => ?_) AllReadyH.nil
  go_simp
  ((refine (within_c _ _ _ _).mono ?_); rintro e w' ⟨rfl, rfl⟩; rw [h1])
  dsimp only
  refine hKK.out _ _ (show Below w0.heap.size w0 _ by first | with_reducible assumption | exact Ev.bdn (Ev.br _) _ | exact Ev.bd1 (Ev.br _) | exact Ev.br _) (fun hHeld => ?_)
  clear hKK K
  (try simp only [Act.put, pu1, pu2, pu3])
  (refine tk 3 6 ?_ rfl rfl (by kernel_rfl) (by rfl) ?_ (by assumption) ?_)
  rotate_left
  · (intro W hSW; go_simp; (try with_reducible rfl))
  simp only [Act.put, pu1, pu2, pu3]
  (refine tk 4 7 ?_ rfl rfl (by kernel_rfl) (by rfl) ?_ (by assumption) ?_)
  rotate_left
  · (intro W hSW; go_simp; (try with_reducible rfl))
  simp only [Act.put, pu1, pu2, pu3]
  (refine tk 5 8 ?_ rfl rfl (by kernel_rfl) (by rfl) ?_ (by assumption) ?_)
  rotate_left
  · (intro W hSW; have hSW2 := hK.out W hSW; go_simp; (try with_reducible rfl))
  simp only [Act.put, pu1, pu2, pu3]
  refine wpAnyH_ready (rs := [6]) (by kernel_rfl) (by simp) ?_
  refine AllReadyH.cons (i := 6) rfl (fun K hKK => ?_) AllReadyH.nil
  go_simp
  ((refine (within_c _ _ _ _).mono ?_); rintro e w' ⟨rfl, rfl⟩; rw [h2])
  dsimp only
  refine hKK.out _ _ (show Below w0.heap.size w0 _ by first | with_reducible assumption | exact Ev.bdn (Ev.br _) _ | exact Ev.bd1 (Ev.br _) | exact Ev.br _) (fun hHeld => ?_)
  clear hKK K
  (try simp only [Act.put, pu1, pu2, pu3])
  (refine tk 7 10 ?_ rfl rfl (by kernel_rfl) (by rfl) ?_ (by assumption) ?_)
  rotate_left
  · (intro W hSW; go_simp; (try with_reducible rfl))
  simp only [Act.put, pu1, pu2, pu3]
  (refine tk 8 11 ?_ rfl rfl (by kernel_rfl) (by rfl) ?_ (by assumption) ?_)
  rotate_left
  · (intro W hSW; go_simp; (try with_reducible rfl))
  simp only [Act.put, pu1, pu2, pu3]
  (refine tk 9 12 ?_ rfl rfl (by kernel_rfl) (by rfl) ?_ (by assumption) ?_)
  rotate_left
  · (intro W hSW; go_simp; (try with_reducible rfl))
  simp only [Act.put, pu1, pu2, pu3]
  (refine tk 10 13 ?_ rfl rfl (by kernel_rfl) (by rfl) ?_ (by assumption) ?_)
  rotate_left
  · (intro W hSW; have hSW2 := hK.out W hSW; go_simp; (try with_reducible rfl))
  simp only [Act.put, pu1, pu2, pu3]
  refine wpAnyH_ready (rs := [11]) (by kernel_rfl) (by simp) ?_
  refine AllReadyH.cons (i := 11) rfl (fun K hKK => ?_) AllReadyH.nil
  go_simp
  ((refine (within_c _ _ _ _).mono ?_); rintro e w' ⟨rfl, rfl⟩; rw [h3])
  dsimp only
  refine hKK.out _ _ (show Below w0.heap.size w0 _ by first | with_reducible assumption | exact Ev.bdn (Ev.br _) _ | exact Ev.bd1 (Ev.br _) | exact Ev.br _) (fun hHeld => ?_)
  clear hKK K
  (try simp only [Act.put, pu1, pu2, pu3])
  (refine tk 12 15 ?_ rfl rfl (by kernel_rfl) (by rfl) ?_ (by assumption) ?_)
  rotate_left
  · (intro W hSW; go_simp; (try with_reducible rfl))
  simp only [Act.put, pu1, pu2, pu3]
  (refine tk 13 16 ?_ rfl rfl (by kernel_rfl) (by rfl) ?_ (by assumption) ?_)
  rotate_left
  · (intro W hSW; go_simp; (try with_reducible rfl))
  simp only [Act.put, pu1, pu2, pu3]
  (refine tk 14 17 ?_ rfl rfl (by kernel_rfl) (by rfl) ?_ (by assumption) ?_)
  rotate_left
  · (intro W hSW; go_simp; (try with_reducible rfl))
  simp only [Act.put, pu1, pu2, pu3]
  (refine tk 15 18 ?_ rfl rfl (by kernel_rfl) (by rfl) ?_ (by assumption) ?_)
  rotate_left
  · (intro W hSW; have hSW2 := hK.out W hSW; go_simp; (try with_reducible rfl))
  simp only [Act.put, pu1, pu2, pu3]
  refine wpAnyH_ready (rs := [16]) (by kernel_rfl) (by simp) ?_
  refine AllReadyH.cons (i := 16) rfl (fun K hKK => ?_) AllReadyH.nil
  go_simp
  ((refine (within_c _ _ _ _).mono ?_); rintro e w' ⟨rfl, rfl⟩; rw [h4])
  dsimp only
  refine hKK.out _ _ (show Below w0.heap.size w0 _ by first | with_reducible assumption | exact Ev.bdn (Ev.br _) _ | exact Ev.bd1 (Ev.br _) | exact Ev.br _) (fun hHeld => ?_)
  clear hKK K
  (try simp only [Act.put, pu1, pu2, pu3])
  (refine tk 17 20 ?_ rfl rfl (by kernel_rfl) (by rfl) ?_ (by assumption) ?_)
  rotate_left
  · (intro W hSW; go_simp; (try with_reducible rfl))
  simp only [Act.put, pu1, pu2, pu3]
  (refine tk 18 21 ?_ rfl rfl (by kernel_rfl) (by rfl) ?_ (by assumption) ?_)
  rotate_left
  · (intro W hSW; go_simp; (try with_reducible rfl))
  simp only [Act.put, pu1, pu2, pu3]
  (refine tk 19 22 ?_ rfl rfl (by kernel_rfl) (by rfl) ?_ (by assumption) ?_)
  rotate_left
  · (intro W hSW; go_simp; (try with_reducible rfl))
  simp only [Act.put, pu1, pu2, pu3]
  (refine tk 20 23 ?_ rfl rfl (by kernel_rfl) (by rfl) ?_ (by assumption) ?_)
  rotate_left
  · (intro W hSW; have hSW2 := hK.out W hSW; go_simp; (try with_reducible rfl))
  simp only [Act.put, pu1, pu2, pu3]
  refine wpAnyH_ready (rs := [21]) (by kernel_rfl) (by simp) ?_
  refine AllReadyH.cons (i := 21) rfl (fun K hKK => ?_) AllReadyH.nil
  go_simp
  ((refine (within_c _ _ _ _).mono ?_); rintro e w' ⟨rfl, rfl⟩; rw [h5])
  dsimp only
  refine hKK.out _ _ (show Below w0.heap.size w0 _ by first | with_reducible assumption | exact Ev.bdn (Ev.br _) _ | exact Ev.bd1 (Ev.br _) | exact Ev.br _) (fun hHeld => ?_)
  clear hKK K
  (try simp only [Act.put, pu1, pu2, pu3])
  (refine tk 22 25 ?_ rfl rfl (by kernel_rfl) (by rfl) ?_ (by assumption) ?_)
  rotate_left
  · (intro W hSW; go_simp; (try with_reducible rfl))
  simp only [Act.put, pu1, pu2, pu3]
  (refine tk 23 26 ?_ rfl rfl (by kernel_rfl) (by rfl) ?_ (by assumption) ?_)
  rotate_left
  · (intro W hSW; go_simp; (try with_reducible rfl))
  simp only [Act.put, pu1, pu2, pu3]
  (refine tk 24 27 ?_ rfl rfl (by kernel_rfl) (by rfl) ?_ (by assumption) ?_)
  rotate_left
  · (intro W hSW; go_simp; (try with_reducible rfl))
  simp only [Act.put, pu1, pu2, pu3]
  (refine tk 25 28 ?_ rfl rfl (by kernel_rfl) (by rfl) ?_ (by assumption) ?_)
  rotate_left
  · (intro W hSW; have hSW2 := hK.out W hSW; go_simp; (try with_reducible rfl))
  simp only [Act.put, pu1, pu2, pu3]
  refine wpAnyH_ready (rs := [26]) (by kernel_rfl) (by simp) ?_
  refine AllReadyH.cons (i := 26) rfl (fun K hKK => ?_) AllReadyH.nil
  go_simp
  ((refine (within_c _ _ _ _).mono ?_); rintro e w' ⟨rfl, rfl⟩; rw [h6])
  dsimp only
  refine hKK.out _ _ (show Below w0.heap.size w0 _ by first | with_reducible assumption | exact Ev.bdn (Ev.br _) _ | exact Ev.bd1 (Ev.br _) | exact Ev.br _) (fun hHeld => ?_)
  clear hKK K
  (try simp only [Act.put, pu1, pu2, pu3])
  (refine tk 27 30 ?_ rfl rfl (by kernel_rfl) (by rfl) ?_ (by assumption) ?_)
  rotate_left
  · (intro W hSW; go_simp; (try with_reducible rfl))
  simp only [Act.put, pu1, pu2, pu3]
  (refine tk 28 31 ?_ rfl rfl (by kernel_rfl) (by rfl) ?_ (by assumption) ?_)
  rotate_left
  · (intro W hSW; go_simp; (try with_reducible rfl))
  simp only [Act.put, pu1, pu2, pu3]
  (refine tk 30 33 ?_ rfl rfl (by kernel_rfl) (by rfl) ?_ (by assumption) ?_)
  rotate_left
  · (intro W hSW; go_simp; (try with_reducible rfl))
  simp only [Act.put, pu1, pu2, pu3]
  (refine tk 31 34 ?_ rfl rfl (by kernel_rfl) (by rfl) ?_ (by assumption) ?_)
  rotate_left
  · (intro W hSW; have hSW2 := hK.out W hSW; go_simp; (try with_reducible rfl))
  simp only [Act.put, pu1, pu2, pu3]
  refine wpAnyH_ready (rs := [29]) (by kernel_rfl) (by simp) ?_
  refine AllReadyH.cons (i := 29) rfl (fun K hKK => ?_) AllReadyH.nil
  go_simp
  ((refine (playersbox_c _).mono ?_); rintro e y1 ⟨rfl, g1⟩; have hgy1 := Ev.bt (show Below w0.heap.size w0 _ by first | with_reducible assumption | exact Ev.bdn (Ev.br _) _ | exact Ev.bd1 (Ev.br _) | exact Ev.br _) g1)
  dsimp only
  refine hKK.out _ _ hgy1 (fun hHeld => ?_)
  clear hKK K
  (try simp only [Act.put, pu1, pu2, pu3])
  refine wpAnyH_ready (rs := [32]) (by kernel_rfl) (by simp) ?_
  refine AllReadyH.cons (i := 32) rfl (fun K hKK => ?_) AllReadyH.nil
  go_simp
  ((refine (Sh.inside_c _ _ _ _ _ _ _).mono ?_); rintro e y2 ⟨rfl, g2⟩; have hgy2 := Ev.bt (show Below w0.heap.size w0 _ by first | with_reducible assumption | exact Ev.bdn (Ev.br _) _ | exact Ev.bd1 (Ev.br _) | exact Ev.br _) g2; rw [h7])
  dsimp only
  refine hKK.out _ _ hgy2 (fun hHeld => ?_)
  clear hKK K
  (try simp only [Act.put, pu1, pu2, pu3])
  (refine tk 33 36 ?_ rfl rfl (by kernel_rfl) (by rfl) ?_ (by assumption) ?_)
  rotate_left
  · (intro W hSW; go_simp; (try with_reducible rfl))
  simp only [Act.put, pu1, pu2, pu3]
  (refine tk 34 37 ?_ rfl rfl (by kernel_rfl) (by rfl) ?_ (by assumption) ?_)
  rotate_left
  · (intro W hSW; go_simp; (try with_reducible rfl))
  simp only [Act.put, pu1, pu2, pu3]
  refine skipW (i := 35) (d := 38) rfl rfl (by kernel_rfl) (by kernel_rfl) (by kernel_rfl) (fun _ _ _ h => h) (by rfl) (by assumption) ?_
  simp only [Act.put, pu1, pu2, pu3]
  refine skipW (i := 36) (d := 39) rfl rfl (by kernel_rfl) (by kernel_rfl) (by kernel_rfl) (fun _ _ _ h => h) (by rfl) (by assumption) ?_
  simp only [Act.put, pu1, pu2, pu3]
  refine skipW (i := 37) (d := 40) rfl rfl (by kernel_rfl) (by kernel_rfl) (by kernel_rfl) (fun _ _ _ h => h) (by rfl) (by assumption) ?_
  simp only [Act.put, pu1, pu2, pu3]
  refine skipW (i := 38) (d := 41) rfl rfl (by kernel_rfl) (by kernel_rfl) (by kernel_rfl) (fun _ _ _ h => h) (by rfl) (by assumption) ?_
  simp only [Act.put, pu1, pu2, pu3]
  refine skipW (i := 39) (d := 42) rfl rfl (by kernel_rfl) (by kernel_rfl) (by kernel_rfl) (fun _ _ _ h => h) (by rfl) (by assumption) ?_
  simp only [Act.put, pu1, pu2, pu3]
  refine skipW (i := 40) (d := 43) rfl rfl (by kernel_rfl) (by kernel_rfl) (by kernel_rfl) (fun _ _ _ h => h) (by rfl) (by assumption) ?_
  simp only [Act.put, pu1, pu2, pu3]
  refine skipW (i := 41) (d := 44) rfl rfl (by kernel_rfl) (by kernel_rfl) (by kernel_rfl) (fun _ _ _ h => h) (by rfl) (by assumption) ?_
  simp only [Act.put, pu1, pu2, pu3]
  (refine tk 42 45 ?_ rfl rfl (by kernel_rfl) (by rfl) ?_ (by assumption) ?_)
  rotate_left
  · (intro W hSW; go_simp; (try with_reducible rfl))
  simp only [Act.put, pu1, pu2, pu3]
  (refine tk 43 2 ?_ rfl rfl (by kernel_rfl) (by rfl) ?_ (by assumption) ?_)
  rotate_left
  · (intro W hSW; go_simp; (try with_reducible rfl))
  simp only [Act.put, pu1, pu2, pu3]
  refine wpAnyH_done (by kernel_rfl) ?_ _
  refine NoPanic.normal ?_
  go_wp2_with fail
  go_ret
  exact ⟨by first | rfl | simp | simp_all, Ev.bt HB.out (by first | with_reducible assumption | exact Ev.bdn (Ev.br _) _ | exact Ev.bd1 (Ev.br _) | exact Ev.br _)⟩
 go_enter Tryz.func24, Tryz.ntmps24
 go_upto_region 1 with fail
 generalize World.alloc w _ = w0 at HX HB ⊢
 have hK := hid (fun W (k : Below w0.heap.size w0 W) => at_pl (HX.out.below k))
 refine wp_region_noPanic ?_
 refine wp_region_held_drew (S := (fun W => Below w0.heap.size w0 W)) (by kernel_rfl) (by first | exact Ev.bd1 (Ev.br _) | exact Ev.bdn (Ev.br _) _ | exact Ev.br _) (fun hHeld => ?_)
 (refine tk 0 3 ?_ rfl rfl (by kernel_rfl) (by rfl) ?_ (by assumption) ?_)
 rotate_left
 · (intro W hSW; go_simp; (try with_reducible rfl))
 simp only [Act.put, pu1, pu2, pu3]
 (refine tk 1 4 ?_ rfl rfl (by kernel_rfl) (by rfl) ?_ (by assumption) ?_)
 rotate_left
 · (intro W hSW; have hSW2 := hK.out W hSW; go_simp; (try with_reducible rfl))
 simp only [Act.put, pu1, pu2, pu3]
 refine wpAnyH_ready (rs := [2]) (by kernel_rfl) (by simp) ?_
 refine AllReadyH.cons (i := 2) rfl (fun K hKK => ?_) AllReadyH.nil
 go_simp
 ((refine (within_c _ _ _ _).mono ?_); rintro e w' ⟨rfl, rfl⟩; rw [h1])
 dsimp only
 refine hKK.out _ _ (show Below w0.heap.size w0 _ by first | with_reducible assumption | exact Ev.bdn (Ev.br _) _ | exact Ev.bd1 (Ev.br _) | exact Ev.br _) (fun hHeld => ?_)
 clear hKK K
 (try simp only [Act.put, pu1, pu2, pu3])
 (refine tk 3 6 ?_ rfl rfl (by kernel_rfl) (by rfl) ?_ (by assumption) ?_)
 rotate_left
 · (intro W hSW; go_simp; (try with_reducible rfl))
 simp only [Act.put, pu1, pu2, pu3]
 (refine tk 4 7 ?_ rfl rfl (by kernel_rfl) (by rfl) ?_ (by assumption) ?_)
 rotate_left
 · (intro W hSW; go_simp; (try with_reducible rfl))
 simp only [Act.put, pu1, pu2, pu3]
 (refine tk 5 8 ?_ rfl rfl (by kernel_rfl) (by rfl) ?_ (by assumption) ?_)
 rotate_left
 · (intro W hSW; have hSW2 := hK.out W hSW; go_simp; (try with_reducible rfl))
 simp only [Act.put, pu1, pu2, pu3]
 refine wpAnyH_ready (rs := [6]) (by kernel_rfl) (by simp) ?_
 refine AllReadyH.cons (i := 6) rfl (fun K hKK => ?_) AllReadyH.nil
 go_simp
 ((refine (within_c _ _ _ _).mono ?_); rintro e w' ⟨rfl, rfl⟩; rw [h2])
 dsimp only
 refine hKK.out _ _ (show Below w0.heap.size w0 _ by first | with_reducible assumption | exact Ev.bdn (Ev.br _) _ | exact Ev.bd1 (Ev.br _) | exact Ev.br _) (fun hHeld => ?_)
 clear hKK K
 (try simp only [Act.put, pu1, pu2, pu3])
 (refine tk 7 10 ?_ rfl rfl (by kernel_rfl) (by rfl) ?_ (by assumption) ?_)
 rotate_left
 · (intro W hSW; go_simp; (try with_reducible rfl))
 simp only [Act.put, pu1, pu2, pu3]
 (refine tk 8 11 ?_ rfl rfl (by kernel_rfl) (by rfl) ?_ (by assumption) ?_)
 rotate_left
 · (intro W hSW; go_simp; (try with_reducible rfl))
 simp only [Act.put, pu1, pu2, pu3]
 (refine tk 9 12 ?_ rfl rfl (by kernel_rfl) (by rfl) ?_ (by assumption) ?_)
 rotate_left
 · (intro W hSW; go_simp; (try with_reducible rfl))
 simp only [Act.put, pu1, pu2, pu3]
 (refine tk 10 13 ?_ rfl rfl (by kernel_rfl) (by rfl) ?_ (by assumption) ?_)
 rotate_left
 · (intro W hSW; have hSW2 := hK.out W hSW; go_simp; (try with_reducible rfl))
 simp only [Act.put, pu1, pu2, pu3]
 refine wpAnyH_ready (rs := [11]) (by kernel_rfl) (by simp) ?_
 refine AllReadyH.cons (i := 11) rfl (fun K hKK => ?_) AllReadyH.nil
 go_simp
 ((refine (within_c _ _ _ _).mono ?_); rintro e w' ⟨rfl, rfl⟩; rw [h3])
 dsimp only
 refine hKK.out _ _ (show Below w0.heap.size w0 _ by first | with_reducible assumption | exact Ev.bdn (Ev.br _) _ | exact Ev.bd1 (Ev.br _) | exact Ev.br _) (fun hHeld => ?_)
 clear hKK K
 (try simp only [Act.put, pu1, pu2, pu3])
 (refine tk 12 15 ?_ rfl rfl (by kernel_rfl) (by rfl) ?_ (by assumption) ?_)
 rotate_left
 · (intro W hSW; go_simp; (try with_reducible rfl))
 simp only [Act.put, pu1, pu2, pu3]
 (refine tk 13 16 ?_ rfl rfl (by kernel_rfl) (by rfl) ?_ (by assumption) ?_)
 rotate_left
 · (intro W hSW; go_simp; (try with_reducible rfl))
 simp only [Act.put, pu1, pu2, pu3]
 (refine tk 14 17 ?_ rfl rfl (by kernel_rfl) (by rfl) ?_ (by assumption) ?_)
 rotate_left
 · (intro W hSW; go_simp; (try with_reducible rfl))
 simp only [Act.put, pu1, pu2, pu3]
 (refine tk 15 18 ?_ rfl rfl (by kernel_rfl) (by rfl) ?_ (by assumption) ?_)
 rotate_left
 · (intro W hSW; have hSW2 := hK.out W hSW; go_simp; (try with_reducible rfl))
 simp only [Act.put, pu1, pu2, pu3]
 refine wpAnyH_ready (rs := [16]) (by kernel_rfl) (by simp) ?_
 refine AllReadyH.cons (i := 16) rfl (fun K hKK => ?_) AllReadyH.nil
 go_simp
 ((refine (within_c _ _ _ _).mono ?_); rintro e w' ⟨rfl, rfl⟩; rw [h4])
 dsimp only
 refine hKK.out _ _ (show Below w0.heap.size w0 _ by first | with_reducible assumption | exact Ev.bdn (Ev.br _) _ | exact Ev.bd1 (Ev.br _) | exact Ev.br _) (fun hHeld => ?_)
 clear hKK K
 (try simp only [Act.put, pu1, pu2, pu3])
 (refine tk 17 20 ?_ rfl rfl (by kernel_rfl) (by rfl) ?_ (by assumption) ?_)
 rotate_left
 · (intro W hSW; go_simp; (try with_reducible rfl))
 simp only [Act.put, pu1, pu2, pu3]
 (refine tk 18 21 ?_ rfl rfl (by kernel_rfl) (by rfl) ?_ (by assumption) ?_)
 rotate_left
 · (intro W hSW; go_simp; (try with_reducible rfl))
 simp only [Act.put, pu1, pu2, pu3]
 (refine tk 19 22 ?_ rfl rfl (by kernel_rfl) (by rfl) ?_ (by assumption) ?_)
 rotate_left
 · (intro W hSW; go_simp; (try with_reducible rfl))
 simp only [Act.put, pu1, pu2, pu3]
 (refine tk 20 23 ?_ rfl rfl (by kernel_rfl) (by rfl) ?_ (by assumption) ?_)
 rotate_left
 · (intro W hSW; have hSW2 := hK.out W hSW; go_simp; (try with_reducible rfl))
 simp only [Act.put, pu1, pu2, pu3]
 refine wpAnyH_ready (rs := [21]) (by kernel_rfl) (by simp) ?_
 refine AllReadyH.cons (i := 21) rfl (fun K hKK => ?_) AllReadyH.nil
 go_simp
 ((refine (within_c _ _ _ _).mono ?_); rintro e w' ⟨rfl, rfl⟩; rw [h5])
 dsimp only
 refine hKK.out _ _ (show Below w0.heap.size w0 _ by first | with_reducible assumption | exact Ev.bdn (Ev.br _) _ | exact Ev.bd1 (Ev.br _) | exact Ev.br _) (fun hHeld => ?_)
 clear hKK K
 (try simp only [Act.put, pu1, pu2, pu3])
 (refine tk 22 25 ?_ rfl rfl (by kernel_rfl) (by rfl) ?_ (by assumption) ?_)
 rotate_left
 · (intro W hSW; go_simp; (try with_reducible rfl))
 simp only [Act.put, pu1, pu2, pu3]
 (refine tk 23 26 ?_ rfl rfl (by kernel_rfl) (by rfl) ?_ (by assumption) ?_)
 rotate_left
 · (intro W hSW; go_simp; (try with_reducible rfl))
 simp only [Act.put, pu1, pu2, pu3]
 (refine tk 24 27 ?_ rfl rfl (by kernel_rfl) (by rfl) ?_ (by assumption) ?_)
 rotate_left
 · (intro W hSW; go_simp; (try with_reducible rfl))
 simp only [Act.put, pu1, pu2, pu3]
 (refine tk 25 28 ?_ rfl rfl (by kernel_rfl) (by rfl) ?_ (by assumption) ?_)
 rotate_left
 · (intro W hSW; have hSW2 := hK.out W hSW; go_simp; (try with_reducible rfl))
 simp only [Act.put, pu1, pu2, pu3]
 refine wpAnyH_ready (rs := [26]) (by kernel_rfl) (by simp) ?_
 refine AllReadyH.cons (i := 26) rfl (fun K hKK => ?_) AllReadyH.nil
 go_simp
 ((refine (within_c _ _ _ _).mono ?_); rintro e w' ⟨rfl, rfl⟩; rw [h6])
 dsimp only
 refine hKK.out _ _ (show Below w0.heap.size w0 _ by first | with_reducible assumption | exact Ev.bdn (Ev.br _) _ | exact Ev.bd1 (Ev.br _) | exact Ev.br _) (fun hHeld => ?_)
 clear hKK K
 (try simp only [Act.put, pu1, pu2, pu3])
 (refine tk 27 30 ?_ rfl rfl (by kernel_rfl) (by rfl) ?_ (by assumption) ?_)
 rotate_left
 · (intro W hSW; go_simp; (try with_reducible rfl))
 simp only [Act.put, pu1, pu2, pu3]
 (refine tk 28 31 ?_ rfl rfl (by kernel_rfl) (by rfl) ?_ (by assumption) ?_)
 rotate_left
 · (intro W hSW; go_simp; (try with_reducible rfl))
 simp only [Act.put, pu1, pu2, pu3]
 (refine tk 30 33 ?_ rfl rfl (by kernel_rfl) (by rfl) ?_ (by assumption) ?_)
 rotate_left
 · (intro W hSW; go_simp; (try with_reducible rfl))
 simp only [Act.put, pu1, pu2, pu3]
 (refine tk 31 34 ?_ rfl rfl (by kernel_rfl) (by rfl) ?_ (by assumption) ?_)
 rotate_left
 · (intro W hSW; have hSW2 := hK.out W hSW; go_simp; (try with_reducible rfl))
 simp only [Act.put, pu1, pu2, pu3]
 refine wpAnyH_ready (rs := [29]) (by kernel_rfl) (by simp) ?_
 refine AllReadyH.cons (i := 29) rfl (fun K hKK => ?_) AllReadyH.nil
 go_simp
 ((refine (playersbox_c _).mono ?_); rintro e y1 ⟨rfl, g1⟩; have hgy1 := Ev.bt (show Below w0.heap.size w0 _ by first | with_reducible assumption | exact Ev.bdn (Ev.br _) _ | exact Ev.bd1 (Ev.br _) | exact Ev.br _) g1)
 dsimp only
 refine hKK.out _ _ hgy1 (fun hHeld => ?_)
 clear hKK K
 (try simp only [Act.put, pu1, pu2, pu3])
 refine wpAnyH_ready (rs := [32]) (by kernel_rfl) (by simp) ?_
 refine AllReadyH.cons (i := 32) rfl (fun K hKK => ?_) AllReadyH.nil
 go_simp
 ((refine (Sh.inside_c _ _ _ _ _ _ _).mono ?_); rintro e y2 ⟨rfl, g2⟩; have hgy2 := Ev.bt (show Below w0.heap.size w0 _ by first | with_reducible assumption | exact Ev.bdn (Ev.br _) _ | exact Ev.bd1 (Ev.br _) | exact Ev.br _) g2; rw [h7])
 dsimp only
 refine hKK.out _ _ hgy2 (fun hHeld => ?_)
 clear hKK K
 (try simp only [Act.put, pu1, pu2, pu3])
 (refine tk 33 36 ?_ rfl rfl (by kernel_rfl) (by rfl) ?_ (by assumption) ?_)
 rotate_left
 · (intro W hSW; go_simp; (try with_reducible rfl))
 simp only [Act.put, pu1, pu2, pu3]
 (refine tk 34 37 ?_ rfl rfl (by kernel_rfl) (by rfl) ?_ (by assumption) ?_)
 rotate_left
 · (intro W hSW; go_simp; (try with_reducible rfl))
 simp only [Act.put, pu1, pu2, pu3]
 (refine tk 35 38 ?_ rfl rfl (by kernel_rfl) (by rfl) ?_ (by assumption) ?_)
 rotate_left
 · (intro W hSW; go_simp; (try with_reducible rfl))
 simp only [Act.put, pu1, pu2, pu3]
 (refine tk 36 39 ?_ rfl rfl (by kernel_rfl) (by rfl) ?_ (by assumption) ?_)
 rotate_left
 · (intro W hSW; have hSW2 := hK.out W hSW; go_simp; (try with_reducible rfl))
 simp only [Act.put, pu1, pu2, pu3]
 (refine tk 37 40 ?_ rfl rfl (by kernel_rfl) (by rfl) ?_ (by assumption) ?_)
 rotate_left
 · (intro W hSW; go_simp; (try with_reducible rfl))
 simp only [Act.put, pu1, pu2, pu3]
 (refine tk 38 41 ?_ rfl rfl (by kernel_rfl) (by rfl) ?_ (by assumption) ?_)
 rotate_left
 · (intro W hSW; go_simp; (try with_reducible rfl))
 simp only [Act.put, pu1, pu2, pu3]
 (refine tk 39 42 ?_ rfl rfl (by kernel_rfl) (by rfl) ?_ (by assumption) ?_)
 rotate_left
 · (intro W hSW; have hSW2 := hK.out W hSW; go_simp; (try with_reducible rfl))
 simp only [Act.put, pu1, pu2, pu3]
 (refine tk 40 43 ?_ rfl rfl (by kernel_rfl) (by rfl) ?_ (by assumption) ?_)
 rotate_left
 · (intro W hSW; go_simp; (try with_reducible rfl))
 simp only [Act.put, pu1, pu2, pu3]
 (refine tk 41 44 ?_ rfl rfl (by kernel_rfl) (by rfl) ?_ (by assumption) ?_)
 rotate_left
 · (intro W hSW; go_simp; (try with_reducible rfl))
 simp only [Act.put, pu1, pu2, pu3]
 (refine tk 42 45 ?_ rfl rfl (by kernel_rfl) (by rfl) ?_ (by assumption) ?_)
 rotate_left
 · (intro W hSW; go_simp; (try with_reducible rfl))
 simp only [Act.put, pu1, pu2, pu3]
 (refine tk 43 2 ?_ rfl rfl (by kernel_rfl) (by rfl) ?_ (by assumption) ?_)
 rotate_left
 · (intro W hSW; go_simp; (try with_reducible rfl))
 simp only [Act.put, pu1, pu2, pu3]
 refine wpAnyH_done (by kernel_rfl) ?_ _
 refine NoPanic.normal ?_
 go_wp2_with fail
 go_ret
 exact ⟨by first | rfl | simp | simp_all, Ev.bt HB.out (by first | with_reducible assumption | exact Ev.bdn (Ev.br _) _ | exact Ev.bd1 (Ev.br _) | exact Ev.br _)⟩

end Go.Proofs.YtigjflacinlafaaGreatDoor.Gm
