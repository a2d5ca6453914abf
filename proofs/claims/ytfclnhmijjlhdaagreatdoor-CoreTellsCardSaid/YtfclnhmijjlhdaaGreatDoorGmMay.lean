/- Which players may be (layer 12, game). -/
import Derived.Test.YtfclnhmijjlhdaaGreatDoorGmRight
namespace Go.Proofs.YtfclnhmijjlhdaaGreatDoor.Gm
open Go.RowKit Go.Proofs.YtfclnhmijjlhdaaGreatDoor.Fx Go.Proofs.YtfclnhmijjlhdaaGreatDoor.Tg Go.Proofs.YtfclnhmijjlhdaaGreatDoor.Dc
open Go.Proofs.YtfclnhmijjlhdaaGreatDoor.Ev (Ev Ky addR pageI At ecs Pg Evs)
open Go.Proofs.YtfclnhmijjlhdaaGreatDoor.Sh (In32 vec box insideB touchB slI mvP mvV wallI)
set_option linter.unusedVariables false

def playB (x : Pl) : Bool := inB x.fa 0 65535 && (inB x.hp 0 3 && (inB x.co 0 8 && (inB x.wi 0 20 && (inB x.dn 0 30 && (inB x.sc 0 2 && (insideB (-3932160) (-3932160) 3932160 3932160 x.ax x.ay && (decide (0 < x.hp) == decide (x.dn = 0))))))))

set_option maxRecDepth 100000 in
set_option maxHeartbeats 2000000 in
theorem mayplay_c (x : Pl) (w : World) :
 Calls Tryz.prog 97 #[plV x] w fun e w' => e = .returned (.bool (playB x)) ∧ Below w.heap.size w w' := by
 unfold playB
 have HX := hid (At.new w (plA x) 59)
 have HB := hid (Ev.bal (Ev.br w) (.cells (plA x) 59))
 cases h1 : inB x.fa 0 65535
 case false =>
  go_enter Tryz.func97, Tryz.ntmps97
  go_upto_region 1 with fail
  generalize World.alloc w _ = w0 at HX HB ⊢
  have hK := hid (fun W (k : Below w0.heap.size w0 W) => at_pl (HX.out.below k))
  refine wp_region_noPanic ?_
  refine wp_region_held_drew (S := (fun W => Below w0.heap.size w0 W)) (by kernel_rfl) (by first | exact Ev.bd1 (Ev.br _) | exact Ev.bdn (Ev.br _) _ | exact Ev.br _) (fun hHeld => ?_)
  refine tkA 0 3 ?_
  simp only [pa, pu2, pu3]
  refine tkL 1 4 hK.out ?_
  simp only [pa, pu2, pu3]
  refine onA 2 (fun K hKK => ?_)
  go_simp
  ((refine (within_c _ _ _ _).mono ?_); rintro e w' ⟨rfl, rfl⟩; rw [h1])
  dsimp only
  refine hKK.out _ _ (show Below w0.heap.size w0 _ by first | with_reducible assumption | exact Ev.bdn (Ev.br _) _ | exact Ev.bd1 (Ev.br _) | exact Ev.br _) (fun hHeld => ?_)
  clear hKK K
  (try simp only [Act.put, pu1, pu2, pu3])
  refine tkA 3 6 ?_
  simp only [pa, pu2, pu3]
  refine tkS 4 7 ?_
  simp only [pa, pu2, pu3]
  refine tkS 5 8 ?_
  simp only [pa, pu2, pu3]
  refine tkS 6 9 ?_
  simp only [pa, pu2, pu3]
  refine tkA 7 10 ?_
  simp only [pa, pu2, pu3]
  refine tkA 8 11 ?_
  simp only [pa, pu2, pu3]
  refine tkS 9 12 ?_
  simp only [pa, pu2, pu3]
  refine tkS 10 13 ?_
  simp only [pa, pu2, pu3]
  refine tkS 11 14 ?_
  simp only [pa, pu2, pu3]
  refine tkA 12 15 ?_
  simp only [pa, pu2, pu3]
  refine tkA 13 16 ?_
  simp only [pa, pu2, pu3]
  refine tkS 14 17 ?_
  simp only [pa, pu2, pu3]
  refine tkS 15 18 ?_
  simp only [pa, pu2, pu3]
  refine tkS 16 19 ?_
  simp only [pa, pu2, pu3]
  refine tkA 17 20 ?_
  simp only [pa, pu2, pu3]
  refine tkA 18 21 ?_
  simp only [pa, pu2, pu3]
  refine tkS 19 22 ?_
  simp only [pa, pu2, pu3]
  refine tkS 20 23 ?_
  simp only [pa, pu2, pu3]
  refine tkS 21 24 ?_
  simp only [pa, pu2, pu3]
  refine tkA 22 25 ?_
  simp only [pa, pu2, pu3]
  refine tkA 23 26 ?_
  simp only [pa, pu2, pu3]
  refine tkS 24 27 ?_
  simp only [pa, pu2, pu3]
  refine tkS 25 28 ?_
  simp only [pa, pu2, pu3]
  refine tkS 26 29 ?_
  simp only [pa, pu2, pu3]
  refine tkA 27 30 ?_
  simp only [pa, pu2, pu3]
  refine tkA 28 31 ?_
  simp only [pa, pu2, pu3]
  refine tkS 29 32 ?_
  simp only [pa, pu2, pu3]
  refine tkS 30 33 ?_
  simp only [pa, pu2, pu3]
  refine tkS 31 34 ?_
  simp only [pa, pu2, pu3]
  refine tkS 32 35 ?_
  simp only [pa, pu2, pu3]
  refine tkA 33 36 ?_
  simp only [pa, pu2, pu3]
  refine tkA 34 37 ?_
  simp only [pa, pu2, pu3]
  refine tkS 35 38 ?_
  simp only [pa, pu2, pu3]
  refine tkS 36 39 ?_
  simp only [pa, pu2, pu3]
  refine tkS 37 40 ?_
  simp only [pa, pu2, pu3]
  refine tkS 38 41 ?_
  simp only [pa, pu2, pu3]
  refine tkS 39 42 ?_
  simp only [pa, pu2, pu3]
  refine tkS 40 43 ?_
  simp only [pa, pu2, pu3]
  refine tkS 41 44 ?_
  simp only [pa, pu2, pu3]
  refine tkA 42 45 ?_
  simp only [pa, pu2, pu3]
  refine tkA 43 2 ?_
  simp only [pa, pu2, pu3]
  refine wpAnyH_done (by kernel_rfl) ?_ _
  refine NoPanic.normal ?_
  go_wp2_with fail
  go_ret
  exact ⟨by first | rfl | simp | simp_all, Ev.bt HB.out (by first | with_reducible assumption | exact Ev.bdn (Ev.br _) _ | exact Ev.bd1 (Ev.br _) | exact Ev.br _)⟩
 cases h2 : inB x.hp 0 3
 case false =>
  go_enter Tryz.func97, Tryz.ntmps97
  go_upto_region 1 with fail
  generalize World.alloc w _ = w0 at HX HB ⊢
  have hK := hid (fun W (k : Below w0.heap.size w0 W) => at_pl (HX.out.below k))
  refine wp_region_noPanic ?_
  refine wp_region_held_drew (S := (fun W => Below w0.heap.size w0 W)) (by kernel_rfl) (by first | exact Ev.bd1 (Ev.br _) | exact Ev.bdn (Ev.br _) _ | exact Ev.br _) (fun hHeld => ?_)
  refine tkA 0 3 ?_
  simp only [pa, pu2, pu3]
  refine tkL 1 4 hK.out ?_
  simp only [pa, pu2, pu3]
  refine onA 2 (fun K hKK => ?_)
  go_simp
  ((refine (within_c _ _ _ _).mono ?_); rintro e w' ⟨rfl, rfl⟩; rw [h1])
  dsimp only
  refine hKK.out _ _ (show Below w0.heap.size w0 _ by first | with_reducible assumption | exact Ev.bdn (Ev.br _) _ | exact Ev.bd1 (Ev.br _) | exact Ev.br _) (fun hHeld => ?_)
  clear hKK K
  (try simp only [Act.put, pu1, pu2, pu3])
  refine tkA 3 6 ?_
  simp only [pa, pu2, pu3]
  refine tkA 4 7 ?_
  simp only [pa, pu2, pu3]
  refine tkL 5 8 hK.out ?_
  simp only [pa, pu2, pu3]
  refine onA 6 (fun K hKK => ?_)
  go_simp
  ((refine (within_c _ _ _ _).mono ?_); rintro e w' ⟨rfl, rfl⟩; rw [h2])
  dsimp only
  refine hKK.out _ _ (show Below w0.heap.size w0 _ by first | with_reducible assumption | exact Ev.bdn (Ev.br _) _ | exact Ev.bd1 (Ev.br _) | exact Ev.br _) (fun hHeld => ?_)
  clear hKK K
  (try simp only [Act.put, pu1, pu2, pu3])
  refine tkA 7 10 ?_
  simp only [pa, pu2, pu3]
  refine tkA 8 11 ?_
  simp only [pa, pu2, pu3]
  refine tkS 9 12 ?_
  simp only [pa, pu2, pu3]
  refine tkS 10 13 ?_
  simp only [pa, pu2, pu3]
  refine tkS 11 14 ?_
  simp only [pa, pu2, pu3]
  refine tkA 12 15 ?_
  simp only [pa, pu2, pu3]
  refine tkA 13 16 ?_
  simp only [pa, pu2, pu3]
  refine tkS 14 17 ?_
  simp only [pa, pu2, pu3]
  refine tkS 15 18 ?_
  simp only [pa, pu2, pu3]
  refine tkS 16 19 ?_
  simp only [pa, pu2, pu3]
  refine tkA 17 20 ?_
  simp only [pa, pu2, pu3]
  refine tkA 18 21 ?_
  simp only [pa, pu2, pu3]
  refine tkS 19 22 ?_
  simp only [pa, pu2, pu3]
  refine tkS 20 23 ?_
  simp only [pa, pu2, pu3]
  refine tkS 21 24 ?_
  simp only [pa, pu2, pu3]
  refine tkA 22 25 ?_
  simp only [pa, pu2, pu3]
  refine tkA 23 26 ?_
  simp only [pa, pu2, pu3]
  refine tkS 24 27 ?_
  simp only [pa, pu2, pu3]
  refine tkS 25 28 ?_
  simp only [pa, pu2, pu3]
  refine tkS 26 29 ?_
  simp only [pa, pu2, pu3]
  refine tkA 27 30 ?_
  simp only [pa, pu2, pu3]
  refine tkA 28 31 ?_
  simp only [pa, pu2, pu3]
  refine tkS 29 32 ?_
  simp only [pa, pu2, pu3]
  refine tkS 30 33 ?_
  simp only [pa, pu2, pu3]
  refine tkS 31 34 ?_
  simp only [pa, pu2, pu3]
  refine tkS 32 35 ?_
  simp only [pa, pu2, pu3]
  refine tkA 33 36 ?_
  simp only [pa, pu2, pu3]
  refine tkA 34 37 ?_
  simp only [pa, pu2, pu3]
  refine tkS 35 38 ?_
  simp only [pa, pu2, pu3]
  refine tkS 36 39 ?_
  simp only [pa, pu2, pu3]
  refine tkS 37 40 ?_
  simp only [pa, pu2, pu3]
  refine tkS 38 41 ?_
  simp only [pa, pu2, pu3]
  refine tkS 39 42 ?_
  simp only [pa, pu2, pu3]
  refine tkS 40 43 ?_
  simp only [pa, pu2, pu3]
  refine tkS 41 44 ?_
  simp only [pa, pu2, pu3]
  refine tkA 42 45 ?_
  simp only [pa, pu2, pu3]
  refine tkA 43 2 ?_
  simp only [pa, pu2, pu3]
  refine wpAnyH_done (by kernel_rfl) ?_ _
  refine NoPanic.normal ?_
  go_wp2_with fail
  go_ret
  exact ⟨by first | rfl | simp | simp_all, Ev.bt HB.out (by first | with_reducible assumption | exact Ev.bdn (Ev.br _) _ | exact Ev.bd1 (Ev.br _) | exact Ev.br _)⟩
 cases h3 : inB x.co 0 8
 case false =>
  go_enter Tryz.func97, Tryz.ntmps97
  go_upto_region 1 with fail
  generalize World.alloc w _ = w0 at HX HB ⊢
  have hK := hid (fun W (k : Below w0.heap.size w0 W) => at_pl (HX.out.below k))
  refine wp_region_noPanic ?_
  refine wp_region_held_drew (S := (fun W => Below w0.heap.size w0 W)) (by kernel_rfl) (by first | exact Ev.bd1 (Ev.br _) | exact Ev.bdn (Ev.br _) _ | exact Ev.br _) (fun hHeld => ?_)
  refine tkA 0 3 ?_
  simp only [pa, pu2, pu3]
  refine tkL 1 4 hK.out ?_
  simp only [pa, pu2, pu3]
  refine onA 2 (fun K hKK => ?_)
  go_simp
  ((refine (within_c _ _ _ _).mono ?_); rintro e w' ⟨rfl, rfl⟩; rw [h1])
  dsimp only
  refine hKK.out _ _ (show Below w0.heap.size w0 _ by first | with_reducible assumption | exact Ev.bdn (Ev.br _) _ | exact Ev.bd1 (Ev.br _) | exact Ev.br _) (fun hHeld => ?_)
  clear hKK K
  (try simp only [Act.put, pu1, pu2, pu3])
  refine tkA 3 6 ?_
  simp only [pa, pu2, pu3]
  refine tkA 4 7 ?_
  simp only [pa, pu2, pu3]
  refine tkL 5 8 hK.out ?_
  simp only [pa, pu2, pu3]
  refine onA 6 (fun K hKK => ?_)
  go_simp
  ((refine (within_c _ _ _ _).mono ?_); rintro e w' ⟨rfl, rfl⟩; rw [h2])
  dsimp only
  refine hKK.out _ _ (show Below w0.heap.size w0 _ by first | with_reducible assumption | exact Ev.bdn (Ev.br _) _ | exact Ev.bd1 (Ev.br _) | exact Ev.br _) (fun hHeld => ?_)
  clear hKK K
  (try simp only [Act.put, pu1, pu2, pu3])
  refine tkA 7 10 ?_
  simp only [pa, pu2, pu3]
  refine tkA 8 11 ?_
  simp only [pa, pu2, pu3]
  refine tkA 9 12 ?_
  simp only [pa, pu2, pu3]
  refine tkL 10 13 hK.out ?_
  simp only [pa, pu2, pu3]
  refine onA 11 (fun K hKK => ?_)
  go_simp
  ((refine (within_c _ _ _ _).mono ?_); rintro e w' ⟨rfl, rfl⟩; rw [h3])
  dsimp only
  refine hKK.out _ _ (show Below w0.heap.size w0 _ by first | with_reducible assumption | exact Ev.bdn (Ev.br _) _ | exact Ev.bd1 (Ev.br _) | exact Ev.br _) (fun hHeld => ?_)
  clear hKK K
  (try simp only [Act.put, pu1, pu2, pu3])
  refine tkA 12 15 ?_
  simp only [pa, pu2, pu3]
  refine tkA 13 16 ?_
  simp only [pa, pu2, pu3]
  refine tkS 14 17 ?_
  simp only [pa, pu2, pu3]
  refine tkS 15 18 ?_
  simp only [pa, pu2, pu3]
  refine tkS 16 19 ?_
  simp only [pa, pu2, pu3]
  refine tkA 17 20 ?_
  simp only [pa, pu2, pu3]
  refine tkA 18 21 ?_
  simp only [pa, pu2, pu3]
  refine tkS 19 22 ?_
  simp only [pa, pu2, pu3]
  refine tkS 20 23 ?_
  simp only [pa, pu2, pu3]
  refine tkS 21 24 ?_
  simp only [pa, pu2, pu3]
  refine tkA 22 25 ?_
  simp only [pa, pu2, pu3]
  refine tkA 23 26 ?_
  simp only [pa, pu2, pu3]
  refine tkS 24 27 ?_
  simp only [pa, pu2, pu3]
  refine tkS 25 28 ?_
  simp only [pa, pu2, pu3]
  refine tkS 26 29 ?_
  simp only [pa, pu2, pu3]
  refine tkA 27 30 ?_
  simp only [pa, pu2, pu3]
  refine tkA 28 31 ?_
  simp only [pa, pu2, pu3]
  refine tkS 29 32 ?_
  simp only [pa, pu2, pu3]
  refine tkS 30 33 ?_
  simp only [pa, pu2, pu3]
  refine tkS 31 34 ?_
  simp only [pa, pu2, pu3]
  refine tkS 32 35 ?_
  simp only [pa, pu2, pu3]
  refine tkA 33 36 ?_
  simp only [pa, pu2, pu3]
  refine tkA 34 37 ?_
  simp only [pa, pu2, pu3]
  refine tkS 35 38 ?_
  simp only [pa, pu2, pu3]
  refine tkS 36 39 ?_
  simp only [pa, pu2, pu3]
  refine tkS 37 40 ?_
  simp only [pa, pu2, pu3]
  refine tkS 38 41 ?_
  simp only [pa, pu2, pu3]
  refine tkS 39 42 ?_
  simp only [pa, pu2, pu3]
  refine tkS 40 43 ?_
  simp only [pa, pu2, pu3]
  refine tkS 41 44 ?_
  simp only [pa, pu2, pu3]
  refine tkA 42 45 ?_
  simp only [pa, pu2, pu3]
  refine tkA 43 2 ?_
  simp only [pa, pu2, pu3]
  refine wpAnyH_done (by kernel_rfl) ?_ _
  refine NoPanic.normal ?_
  go_wp2_with fail
  go_ret
  exact ⟨by first | rfl | simp | simp_all, Ev.bt HB.out (by first | with_reducible assumption | exact Ev.bdn (Ev.br _) _ | exact Ev.bd1 (Ev.br _) | exact Ev.br _)⟩
 cases h4 : inB x.wi 0 20
 case false =>
  go_enter Tryz.func97, Tryz.ntmps97
  go_upto_region 1 with fail
  generalize World.alloc w _ = w0 at HX HB ⊢
  have hK := hid (fun W (k : Below w0.heap.size w0 W) => at_pl (HX.out.below k))
  refine wp_region_noPanic ?_
  refine wp_region_held_drew (S := (fun W => Below w0.heap.size w0 W)) (by kernel_rfl) (by first | exact Ev.bd1 (Ev.br _) | exact Ev.bdn (Ev.br _) _ | exact Ev.br _) (fun hHeld => ?_)
  refine tkA 0 3 ?_
  simp only [pa, pu2, pu3]
  refine tkL 1 4 hK.out ?_
  simp only [pa, pu2, pu3]
  refine onA 2 (fun K hKK => ?_)
  go_simp
  ((refine (within_c _ _ _ _).mono ?_); rintro e w' ⟨rfl, rfl⟩; rw [h1])
  dsimp only
  refine hKK.out _ _ (show Below w0.heap.size w0 _ by first | with_reducible assumption | exact Ev.bdn (Ev.br _) _ | exact Ev.bd1 (Ev.br _) | exact Ev.br _) (fun hHeld => ?_)
  clear hKK K
  (try simp only [Act.put, pu1, pu2, pu3])
  refine tkA 3 6 ?_
  simp only [pa, pu2, pu3]
  refine tkA 4 7 ?_
  simp only [pa, pu2, pu3]
  refine tkL 5 8 hK.out ?_
  simp only [pa, pu2, pu3]
  refine onA 6 (fun K hKK => ?_)
  go_simp
  ((refine (within_c _ _ _ _).mono ?_); rintro e w' ⟨rfl, rfl⟩; rw [h2])
  dsimp only
  refine hKK.out _ _ (show Below w0.heap.size w0 _ by first | with_reducible assumption | exact Ev.bdn (Ev.br _) _ | exact Ev.bd1 (Ev.br _) | exact Ev.br _) (fun hHeld => ?_)
  clear hKK K
  (try simp only [Act.put, pu1, pu2, pu3])
  refine tkA 7 10 ?_
  simp only [pa, pu2, pu3]
  refine tkA 8 11 ?_
  simp only [pa, pu2, pu3]
  refine tkA 9 12 ?_
  simp only [pa, pu2, pu3]
  refine tkL 10 13 hK.out ?_
  simp only [pa, pu2, pu3]
  refine onA 11 (fun K hKK => ?_)
  go_simp
  ((refine (within_c _ _ _ _).mono ?_); rintro e w' ⟨rfl, rfl⟩; rw [h3])
  dsimp only
  refine hKK.out _ _ (show Below w0.heap.size w0 _ by first | with_reducible assumption | exact Ev.bdn (Ev.br _) _ | exact Ev.bd1 (Ev.br _) | exact Ev.br _) (fun hHeld => ?_)
  clear hKK K
  (try simp only [Act.put, pu1, pu2, pu3])
  refine tkA 12 15 ?_
  simp only [pa, pu2, pu3]
  refine tkA 13 16 ?_
  simp only [pa, pu2, pu3]
  refine tkA 14 17 ?_
  simp only [pa, pu2, pu3]
  refine tkL 15 18 hK.out ?_
  simp only [pa, pu2, pu3]
  refine onA 16 (fun K hKK => ?_)
  go_simp
  ((refine (within_c _ _ _ _).mono ?_); rintro e w' ⟨rfl, rfl⟩; rw [h4])
  dsimp only
  refine hKK.out _ _ (show Below w0.heap.size w0 _ by first | with_reducible assumption | exact Ev.bdn (Ev.br _) _ | exact Ev.bd1 (Ev.br _) | exact Ev.br _) (fun hHeld => ?_)
  clear hKK K
  (try simp only [Act.put, pu1, pu2, pu3])
  refine tkA 17 20 ?_
  simp only [pa, pu2, pu3]
  refine tkA 18 21 ?_
  simp only [pa, pu2, pu3]
  refine tkS 19 22 ?_
  simp only [pa, pu2, pu3]
  refine tkS 20 23 ?_
  simp only [pa, pu2, pu3]
  refine tkS 21 24 ?_
  simp only [pa, pu2, pu3]
  refine tkA 22 25 ?_
  simp only [pa, pu2, pu3]
  refine tkA 23 26 ?_
  simp only [pa, pu2, pu3]
  refine tkS 24 27 ?_
  simp only [pa, pu2, pu3]
  refine tkS 25 28 ?_
  simp only [pa, pu2, pu3]
  refine tkS 26 29 ?_
  simp only [pa, pu2, pu3]
  refine tkA 27 30 ?_
  simp only [pa, pu2, pu3]
  refine tkA 28 31 ?_
  simp only [pa, pu2, pu3]
  refine tkS 29 32 ?_
  simp only [pa, pu2, pu3]
  refine tkS 30 33 ?_
  simp only [pa, pu2, pu3]
  refine tkS 31 34 ?_
  simp only [pa, pu2, pu3]
  refine tkS 32 35 ?_
  simp only [pa, pu2, pu3]
  refine tkA 33 36 ?_
  simp only [pa, pu2, pu3]
  refine tkA 34 37 ?_
  simp only [pa, pu2, pu3]
  refine tkS 35 38 ?_
  simp only [pa, pu2, pu3]
  refine tkS 36 39 ?_
  simp only [pa, pu2, pu3]
  refine tkS 37 40 ?_
  simp only [pa, pu2, pu3]
  refine tkS 38 41 ?_
  simp only [pa, pu2, pu3]
  refine tkS 39 42 ?_
  simp only [pa, pu2, pu3]
  refine tkS 40 43 ?_
  simp only [pa, pu2, pu3]
  refine tkS 41 44 ?_
  simp only [pa, pu2, pu3]
  refine tkA 42 45 ?_
  simp only [pa, pu2, pu3]
  refine tkA 43 2 ?_
  simp only [pa, pu2, pu3]
  refine wpAnyH_done (by kernel_rfl) ?_ _
  refine NoPanic.normal ?_
  go_wp2_with fail
  go_ret
  exact ⟨by first | rfl | simp | simp_all, Ev.bt HB.out (by first | with_reducible assumption | exact Ev.bdn (Ev.br _) _ | exact Ev.bd1 (Ev.br _) | exact Ev.br _)⟩
 cases h5 : inB x.dn 0 30
 case false =>
  go_enter Tryz.func97, Tryz.ntmps97
  go_upto_region 1 with fail
  generalize World.alloc w _ = w0 at HX HB ⊢
  have hK := hid (fun W (k : Below w0.heap.size w0 W) => at_pl (HX.out.below k))
  refine wp_region_noPanic ?_
  refine wp_region_held_drew (S := (fun W => Below w0.heap.size w0 W)) (by kernel_rfl) (by first | exact Ev.bd1 (Ev.br _) | exact Ev.bdn (Ev.br _) _ | exact Ev.br _) (fun hHeld => ?_)
  refine tkA 0 3 ?_
  simp only [pa, pu2, pu3]
  refine tkL 1 4 hK.out ?_
  simp only [pa, pu2, pu3]
  refine onA 2 (fun K hKK => ?_)
  go_simp
  ((refine (within_c _ _ _ _).mono ?_); rintro e w' ⟨rfl, rfl⟩; rw [h1])
  dsimp only
  refine hKK.out _ _ (show Below w0.heap.size w0 _ by first | with_reducible assumption | exact Ev.bdn (Ev.br _) _ | exact Ev.bd1 (Ev.br _) | exact Ev.br _) (fun hHeld => ?_)
  clear hKK K
  (try simp only [Act.put, pu1, pu2, pu3])
  refine tkA 3 6 ?_
  simp only [pa, pu2, pu3]
  refine tkA 4 7 ?_
  simp only [pa, pu2, pu3]
  refine tkL 5 8 hK.out ?_
  simp only [pa, pu2, pu3]
  refine onA 6 (fun K hKK => ?_)
  go_simp
  ((refine (within_c _ _ _ _).mono ?_); rintro e w' ⟨rfl, rfl⟩; rw [h2])
  dsimp only
  refine hKK.out _ _ (show Below w0.heap.size w0 _ by first | with_reducible assumption | exact Ev.bdn (Ev.br _) _ | exact Ev.bd1 (Ev.br _) | exact Ev.br _) (fun hHeld => ?_)
  clear hKK K
  (try simp only [Act.put, pu1, pu2, pu3])
  refine tkA 7 10 ?_
  simp only [pa, pu2, pu3]
  refine tkA 8 11 ?_
  simp only [pa, pu2, pu3]
  refine tkA 9 12 ?_
  simp only [pa, pu2, pu3]
  refine tkL 10 13 hK.out ?_
  simp only [pa, pu2, pu3]
  refine onA 11 (fun K hKK => ?_)
  go_simp
  ((refine (within_c _ _ _ _).mono ?_); rintro e w' ⟨rfl, rfl⟩; rw [h3])
  dsimp only
  refine hKK.out _ _ (show Below w0.heap.size w0 _ by first | with_reducible assumption | exact Ev.bdn (Ev.br _) _ | exact Ev.bd1 (Ev.br _) | exact Ev.br _) (fun hHeld => ?_)
  clear hKK K
  (try simp only [Act.put, pu1, pu2, pu3])
  refine tkA 12 15 ?_
  simp only [pa, pu2, pu3]
  refine tkA 13 16 ?_
  simp only [pa, pu2, pu3]
  refine tkA 14 17 ?_
  simp only [pa, pu2, pu3]
  refine tkL 15 18 hK.out ?_
  simp only [pa, pu2, pu3]
  refine onA 16 (fun K hKK => ?_)
  go_simp
  ((refine (within_c _ _ _ _).mono ?_); rintro e w' ⟨rfl, rfl⟩; rw [h4])
  dsimp only
  refine hKK.out _ _ (show Below w0.heap.size w0 _ by first | with_reducible assumption | exact Ev.bdn (Ev.br _) _ | exact Ev.bd1 (Ev.br _) | exact Ev.br _) (fun hHeld => ?_)
  clear hKK K
  (try simp only [Act.put, pu1, pu2, pu3])
  refine tkA 17 20 ?_
  simp only [pa, pu2, pu3]
  refine tkA 18 21 ?_
  simp only [pa, pu2, pu3]
  refine tkA 19 22 ?_
  simp only [pa, pu2, pu3]
  refine tkL 20 23 hK.out ?_
  simp only [pa, pu2, pu3]
  refine onA 21 (fun K hKK => ?_)
  go_simp
  ((refine (within_c _ _ _ _).mono ?_); rintro e w' ⟨rfl, rfl⟩; rw [h5])
  dsimp only
  refine hKK.out _ _ (show Below w0.heap.size w0 _ by first | with_reducible assumption | exact Ev.bdn (Ev.br _) _ | exact Ev.bd1 (Ev.br _) | exact Ev.br _) (fun hHeld => ?_)
  clear hKK K
  (try simp only [Act.put, pu1, pu2, pu3])
  refine tkA 22 25 ?_
  simp only [pa, pu2, pu3]
  refine tkA 23 26 ?_
  simp only [pa, pu2, pu3]
  refine tkS 24 27 ?_
  simp only [pa, pu2, pu3]
  refine tkS 25 28 ?_
  simp only [pa, pu2, pu3]
  refine tkS 26 29 ?_
  simp only [pa, pu2, pu3]
  refine tkA 27 30 ?_
  simp only [pa, pu2, pu3]
  refine tkA 28 31 ?_
  simp only [pa, pu2, pu3]
  refine tkS 29 32 ?_
  simp only [pa, pu2, pu3]
  refine tkS 30 33 ?_
  simp only [pa, pu2, pu3]
  refine tkS 31 34 ?_
  simp only [pa, pu2, pu3]
  refine tkS 32 35 ?_
  simp only [pa, pu2, pu3]
  refine tkA 33 36 ?_
  simp only [pa, pu2, pu3]
  refine tkA 34 37 ?_
  simp only [pa, pu2, pu3]
  refine tkS 35 38 ?_
  simp only [pa, pu2, pu3]
  refine tkS 36 39 ?_
  simp only [pa, pu2, pu3]
  refine tkS 37 40 ?_
  simp only [pa, pu2, pu3]
  refine tkS 38 41 ?_
  simp only [pa, pu2, pu3]
  refine tkS 39 42 ?_
  simp only [pa, pu2, pu3]
  refine tkS 40 43 ?_
  simp only [pa, pu2, pu3]
  refine tkS 41 44 ?_
  simp only [pa, pu2, pu3]
  refine tkA 42 45 ?_
  simp only [pa, pu2, pu3]
  refine tkA 43 2 ?_
  simp only [pa, pu2, pu3]
  refine wpAnyH_done (by kernel_rfl) ?_ _
  refine NoPanic.normal ?_
  go_wp2_with fail
  go_ret
  exact ⟨by first | rfl | simp | simp_all, Ev.bt HB.out (by first | with_reducible assumption | exact Ev.bdn (Ev.br _) _ | exact Ev.bd1 (Ev.br _) | exact Ev.br _)⟩
 cases h6 : inB x.sc 0 2
 case false =>
  go_enter Tryz.func97, Tryz.ntmps97
  go_upto_region 1 with fail
  generalize World.alloc w _ = w0 at HX HB ⊢
  have hK := hid (fun W (k : Below w0.heap.size w0 W) => at_pl (HX.out.below k))
  refine wp_region_noPanic ?_
  refine wp_region_held_drew (S := (fun W => Below w0.heap.size w0 W)) (by kernel_rfl) (by first | exact Ev.bd1 (Ev.br _) | exact Ev.bdn (Ev.br _) _ | exact Ev.br _) (fun hHeld => ?_)
  refine tkA 0 3 ?_
  simp only [pa, pu2, pu3]
  refine tkL 1 4 hK.out ?_
  simp only [pa, pu2, pu3]
  refine onA 2 (fun K hKK => ?_)
  go_simp
  ((refine (within_c _ _ _ _).mono ?_); rintro e w' ⟨rfl, rfl⟩; rw [h1])
  dsimp only
  refine hKK.out _ _ (show Below w0.heap.size w0 _ by first | with_reducible assumption | exact Ev.bdn (Ev.br _) _ | exact Ev.bd1 (Ev.br _) | exact Ev.br _) (fun hHeld => ?_)
  clear hKK K
  (try simp only [Act.put, pu1, pu2, pu3])
  refine tkA 3 6 ?_
  simp only [pa, pu2, pu3]
  refine tkA 4 7 ?_
  simp only [pa, pu2, pu3]
  refine tkL 5 8 hK.out ?_
  simp only [pa, pu2, pu3]
  refine onA 6 (fun K hKK => ?_)
  go_simp
  ((refine (within_c _ _ _ _).mono ?_); rintro e w' ⟨rfl, rfl⟩; rw [h2])
  dsimp only
  refine hKK.out _ _ (show Below w0.heap.size w0 _ by first | with_reducible assumption | exact Ev.bdn (Ev.br _) _ | exact Ev.bd1 (Ev.br _) | exact Ev.br _) (fun hHeld => ?_)
  clear hKK K
  (try simp only [Act.put, pu1, pu2, pu3])
  refine tkA 7 10 ?_
  simp only [pa, pu2, pu3]
  refine tkA 8 11 ?_
  simp only [pa, pu2, pu3]
  refine tkA 9 12 ?_
  simp only [pa, pu2, pu3]
  refine tkL 10 13 hK.out ?_
  simp only [pa, pu2, pu3]
  refine onA 11 (fun K hKK => ?_)
  go_simp
  ((refine (within_c _ _ _ _).mono ?_); rintro e w' ⟨rfl, rfl⟩; rw [h3])
  dsimp only
  refine hKK.out _ _ (show Below w0.heap.size w0 _ by first | with_reducible assumption | exact Ev.bdn (Ev.br _) _ | exact Ev.bd1 (Ev.br _) | exact Ev.br _) (fun hHeld => ?_)
  clear hKK K
  (try simp only [Act.put, pu1, pu2, pu3])
  refine tkA 12 15 ?_
  simp only [pa, pu2, pu3]
  refine tkA 13 16 ?_
  simp only [pa, pu2, pu3]
  refine tkA 14 17 ?_
  simp only [pa, pu2, pu3]
  refine tkL 15 18 hK.out ?_
  simp only [pa, pu2, pu3]
  refine onA 16 (fun K hKK => ?_)
  go_simp
  ((refine (within_c _ _ _ _).mono ?_); rintro e w' ⟨rfl, rfl⟩; rw [h4])
  dsimp only
  refine hKK.out _ _ (show Below w0.heap.size w0 _ by first | with_reducible assumption | exact Ev.bdn (Ev.br _) _ | exact Ev.bd1 (Ev.br _) | exact Ev.br _) (fun hHeld => ?_)
  clear hKK K
  (try simp only [Act.put, pu1, pu2, pu3])
  refine tkA 17 20 ?_
  simp only [pa, pu2, pu3]
  refine tkA 18 21 ?_
  simp only [pa, pu2, pu3]
  refine tkA 19 22 ?_
  simp only [pa, pu2, pu3]
  refine tkL 20 23 hK.out ?_
  simp only [pa, pu2, pu3]
  refine onA 21 (fun K hKK => ?_)
  go_simp
  ((refine (within_c _ _ _ _).mono ?_); rintro e w' ⟨rfl, rfl⟩; rw [h5])
  dsimp only
  refine hKK.out _ _ (show Below w0.heap.size w0 _ by first | with_reducible assumption | exact Ev.bdn (Ev.br _) _ | exact Ev.bd1 (Ev.br _) | exact Ev.br _) (fun hHeld => ?_)
  clear hKK K
  (try simp only [Act.put, pu1, pu2, pu3])
  refine tkA 22 25 ?_
  simp only [pa, pu2, pu3]
  refine tkA 23 26 ?_
  simp only [pa, pu2, pu3]
  refine tkA 24 27 ?_
  simp only [pa, pu2, pu3]
  refine tkL 25 28 hK.out ?_
  simp only [pa, pu2, pu3]
  refine onA 26 (fun K hKK => ?_)
  go_simp
  ((refine (within_c _ _ _ _).mono ?_); rintro e w' ⟨rfl, rfl⟩; rw [h6])
  dsimp only
  refine hKK.out _ _ (show Below w0.heap.size w0 _ by first | with_reducible assumption | exact Ev.bdn (Ev.br _) _ | exact Ev.bd1 (Ev.br _) | exact Ev.br _) (fun hHeld => ?_)
  clear hKK K
  (try simp only [Act.put, pu1, pu2, pu3])
  refine tkA 27 30 ?_
  simp only [pa, pu2, pu3]
  refine tkA 28 31 ?_
  simp only [pa, pu2, pu3]
  refine tkS 29 32 ?_
  simp only [pa, pu2, pu3]
  refine tkS 30 33 ?_
  simp only [pa, pu2, pu3]
  refine tkS 31 34 ?_
  simp only [pa, pu2, pu3]
  refine tkS 32 35 ?_
  simp only [pa, pu2, pu3]
  refine tkA 33 36 ?_
  simp only [pa, pu2, pu3]
  refine tkA 34 37 ?_
  simp only [pa, pu2, pu3]
  refine tkS 35 38 ?_
  simp only [pa, pu2, pu3]
  refine tkS 36 39 ?_
  simp only [pa, pu2, pu3]
  refine tkS 37 40 ?_
  simp only [pa, pu2, pu3]
  refine tkS 38 41 ?_
  simp only [pa, pu2, pu3]
  refine tkS 39 42 ?_
  simp only [pa, pu2, pu3]
  refine tkS 40 43 ?_
  simp only [pa, pu2, pu3]
  refine tkS 41 44 ?_
  simp only [pa, pu2, pu3]
  refine tkA 42 45 ?_
  simp only [pa, pu2, pu3]
  refine tkA 43 2 ?_
  simp only [pa, pu2, pu3]
  refine wpAnyH_done (by kernel_rfl) ?_ _
  refine NoPanic.normal ?_
  go_wp2_with fail
  go_ret
  exact ⟨by first | rfl | simp | simp_all, Ev.bt HB.out (by first | with_reducible assumption | exact Ev.bdn (Ev.br _) _ | exact Ev.bd1 (Ev.br _) | exact Ev.br _)⟩
 cases h7 : insideB (-3932160) (-3932160) 3932160 3932160 x.ax x.ay
 case false =>
  go_enter Tryz.func97, Tryz.ntmps97
  go_upto_region 1 with fail
  generalize World.alloc w _ = w0 at HX HB ⊢
  have hK := hid (fun W (k : Below w0.heap.size w0 W) => at_pl (HX.out.below k))
  refine wp_region_noPanic ?_
  refine wp_region_held_drew (S := (fun W => Below w0.heap.size w0 W)) (by kernel_rfl) (by first | exact Ev.bd1 (Ev.br _) | exact Ev.bdn (Ev.br _) _ | exact Ev.br _) (fun hHeld => ?_)
  refine tkA 0 3 ?_
  simp only [pa, pu2, pu3]
  refine tkL 1 4 hK.out ?_
  simp only [pa, pu2, pu3]
  refine onA 2 (fun K hKK => ?_)
  go_simp
  ((refine (within_c _ _ _ _).mono ?_); rintro e w' ⟨rfl, rfl⟩; rw [h1])
  dsimp only
  refine hKK.out _ _ (show Below w0.heap.size w0 _ by first | with_reducible assumption | exact Ev.bdn (Ev.br _) _ | exact Ev.bd1 (Ev.br _) | exact Ev.br _) (fun hHeld => ?_)
  clear hKK K
  (try simp only [Act.put, pu1, pu2, pu3])
  refine tkA 3 6 ?_
  simp only [pa, pu2, pu3]
  refine tkA 4 7 ?_
  simp only [pa, pu2, pu3]
  refine tkL 5 8 hK.out ?_
  simp only [pa, pu2, pu3]
  refine onA 6 (fun K hKK => ?_)
  go_simp
  ((refine (within_c _ _ _ _).mono ?_); rintro e w' ⟨rfl, rfl⟩; rw [h2])
  dsimp only
  refine hKK.out _ _ (show Below w0.heap.size w0 _ by first | with_reducible assumption | exact Ev.bdn (Ev.br _) _ | exact Ev.bd1 (Ev.br _) | exact Ev.br _) (fun hHeld => ?_)
  clear hKK K
  (try simp only [Act.put, pu1, pu2, pu3])
  refine tkA 7 10 ?_
  simp only [pa, pu2, pu3]
  refine tkA 8 11 ?_
  simp only [pa, pu2, pu3]
  refine tkA 9 12 ?_
  simp only [pa, pu2, pu3]
  refine tkL 10 13 hK.out ?_
  simp only [pa, pu2, pu3]
  refine onA 11 (fun K hKK => ?_)
  go_simp
  ((refine (within_c _ _ _ _).mono ?_); rintro e w' ⟨rfl, rfl⟩; rw [h3])
  dsimp only
  refine hKK.out _ _ (show Below w0.heap.size w0 _ by first | with_reducible assumption | exact Ev.bdn (Ev.br _) _ | exact Ev.bd1 (Ev.br _) | exact Ev.br _) (fun hHeld => ?_)
  clear hKK K
  (try simp only [Act.put, pu1, pu2, pu3])
  refine tkA 12 15 ?_
  simp only [pa, pu2, pu3]
  refine tkA 13 16 ?_
  simp only [pa, pu2, pu3]
  refine tkA 14 17 ?_
  simp only [pa, pu2, pu3]
  refine tkL 15 18 hK.out ?_
  simp only [pa, pu2, pu3]
  refine onA 16 (fun K hKK => ?_)
  go_simp
  ((refine (within_c _ _ _ _).mono ?_); rintro e w' ⟨rfl, rfl⟩; rw [h4])
  dsimp only
  refine hKK.out _ _ (show Below w0.heap.size w0 _ by first | with_reducible assumption | exact Ev.bdn (Ev.br _) _ | exact Ev.bd1 (Ev.br _) | exact Ev.br _) (fun hHeld => ?_)
  clear hKK K
  (try simp only [Act.put, pu1, pu2, pu3])
  refine tkA 17 20 ?_
  simp only [pa, pu2, pu3]
  refine tkA 18 21 ?_
  simp only [pa, pu2, pu3]
  refine tkA 19 22 ?_
  simp only [pa, pu2, pu3]
  refine tkL 20 23 hK.out ?_
  simp only [pa, pu2, pu3]
  refine onA 21 (fun K hKK => ?_)
  go_simp
  ((refine (within_c _ _ _ _).mono ?_); rintro e w' ⟨rfl, rfl⟩; rw [h5])
  dsimp only
  refine hKK.out _ _ (show Below w0.heap.size w0 _ by first | with_reducible assumption | exact Ev.bdn (Ev.br _) _ | exact Ev.bd1 (Ev.br _) | exact Ev.br _) (fun hHeld => ?_)
  clear hKK K
  (try simp only [Act.put, pu1, pu2, pu3])
  refine tkA 22 25 ?_
  simp only [pa, pu2, pu3]
  refine tkA 23 26 ?_
  simp only [pa, pu2, pu3]
  refine tkA 24 27 ?_
  simp only [pa, pu2, pu3]
  refine tkL 25 28 hK.out ?_
  simp only [pa, pu2, pu3]
  refine onA 26 (fun K hKK => ?_)
  go_simp
  ((refine (within_c _ _ _ _).mono ?_); rintro e w' ⟨rfl, rfl⟩; rw [h6])
  dsimp only
  refine hKK.out _ _ (show Below w0.heap.size w0 _ by first | with_reducible assumption | exact Ev.bdn (Ev.br _) _ | exact Ev.bd1 (Ev.br _) | exact Ev.br _) (fun hHeld => ?_)
  clear hKK K
  (try simp only [Act.put, pu1, pu2, pu3])
  refine tkA 27 30 ?_
  simp only [pa, pu2, pu3]
  refine tkA 28 31 ?_
  simp only [pa, pu2, pu3]
  refine tkA 30 33 ?_
  simp only [pa, pu2, pu3]
  refine tkL 31 34 hK.out ?_
  simp only [pa, pu2, pu3]
  refine onA 29 (fun K hKK => ?_)
  go_simp
  ((refine (playersbox_c _).mono ?_); rintro e y1 ⟨rfl, g1⟩; have hgy1 := Ev.bt (show Below w0.heap.size w0 _ by first | with_reducible assumption | exact Ev.bdn (Ev.br _) _ | exact Ev.bd1 (Ev.br _) | exact Ev.br _) g1)
  dsimp only
  refine hKK.out _ _ hgy1 (fun hHeld => ?_)
  clear hKK K
  (try simp only [Act.put, pu1, pu2, pu3])
  refine onA 32 (fun K hKK => ?_)
  go_simp
  ((refine (Sh.inside_c _ _ _ _ _ _ _).mono ?_); rintro e y2 ⟨rfl, g2⟩; have hgy2 := Ev.bt (show Below w0.heap.size w0 _ by first | with_reducible assumption | exact Ev.bdn (Ev.br _) _ | exact Ev.bd1 (Ev.br _) | exact Ev.br _) g2; rw [h7])
  dsimp only
  refine hKK.out _ _ hgy2 (fun hHeld => ?_)
  clear hKK K
  (try simp only [Act.put, pu1, pu2, pu3])
  refine tkA 33 36 ?_
  simp only [pa, pu2, pu3]
  refine tkA 34 37 ?_
  simp only [pa, pu2, pu3]
  refine tkS 35 38 ?_
  simp only [pa, pu2, pu3]
  refine tkS 36 39 ?_
  simp only [pa, pu2, pu3]
  refine tkS 37 40 ?_
  simp only [pa, pu2, pu3]
  refine tkS 38 41 ?_
  simp only [pa, pu2, pu3]
  refine tkS 39 42 ?_
  simp only [pa, pu2, pu3]
  refine tkS 40 43 ?_
  simp only [pa, pu2, pu3]
  refine tkS 41 44 ?_
  simp only [pa, pu2, pu3]
  refine tkA 42 45 ?_
  simp only [pa, pu2, pu3]
  refine tkA 43 2 ?_
  simp only [pa, pu2, pu3]
  refine wpAnyH_done (by kernel_rfl) ?_ _
  refine NoPanic.normal ?_
  go_wp2_with fail
  go_ret
  exact ⟨by first | rfl | simp | simp_all, Ev.bt HB.out (by first | with_reducible assumption | exact Ev.bdn (Ev.br _) _ | exact Ev.bd1 (Ev.br _) | exact Ev.br _)⟩
 go_enter Tryz.func97, Tryz.ntmps97
 go_upto_region 1 with fail
 generalize World.alloc w _ = w0 at HX HB ⊢
 have hK := hid (fun W (k : Below w0.heap.size w0 W) => at_pl (HX.out.below k))
 refine wp_region_noPanic ?_
 refine wp_region_held_drew (S := (fun W => Below w0.heap.size w0 W)) (by kernel_rfl) (by first | exact Ev.bd1 (Ev.br _) | exact Ev.bdn (Ev.br _) _ | exact Ev.br _) (fun hHeld => ?_)
 refine tkA 0 3 ?_
 simp only [pa, pu2, pu3]
 refine tkL 1 4 hK.out ?_
 simp only [pa, pu2, pu3]
 refine onA 2 (fun K hKK => ?_)
 go_simp
 ((refine (within_c _ _ _ _).mono ?_); rintro e w' ⟨rfl, rfl⟩; rw [h1])
 dsimp only
 refine hKK.out _ _ (show Below w0.heap.size w0 _ by first | with_reducible assumption | exact Ev.bdn (Ev.br _) _ | exact Ev.bd1 (Ev.br _) | exact Ev.br _) (fun hHeld => ?_)
 clear hKK K
 (try simp only [Act.put, pu1, pu2, pu3])
 refine tkA 3 6 ?_
 simp only [pa, pu2, pu3]
 refine tkA 4 7 ?_
 simp only [pa, pu2, pu3]
 refine tkL 5 8 hK.out ?_
 simp only [pa, pu2, pu3]
 refine onA 6 (fun K hKK => ?_)
 go_simp
 ((refine (within_c _ _ _ _).mono ?_); rintro e w' ⟨rfl, rfl⟩; rw [h2])
 dsimp only
 refine hKK.out _ _ (show Below w0.heap.size w0 _ by first | with_reducible assumption | exact Ev.bdn (Ev.br _) _ | exact Ev.bd1 (Ev.br _) | exact Ev.br _) (fun hHeld => ?_)
 clear hKK K
 (try simp only [Act.put, pu1, pu2, pu3])
 refine tkA 7 10 ?_
 simp only [pa, pu2, pu3]
 refine tkA 8 11 ?_
 simp only [pa, pu2, pu3]
 refine tkA 9 12 ?_
 simp only [pa, pu2, pu3]
 refine tkL 10 13 hK.out ?_
 simp only [pa, pu2, pu3]
 refine onA 11 (fun K hKK => ?_)
 go_simp
 ((refine (within_c _ _ _ _).mono ?_); rintro e w' ⟨rfl, rfl⟩; rw [h3])
 dsimp only
 refine hKK.out _ _ (show Below w0.heap.size w0 _ by first | with_reducible assumption | exact Ev.bdn (Ev.br _) _ | exact Ev.bd1 (Ev.br _) | exact Ev.br _) (fun hHeld => ?_)
 clear hKK K
 (try simp only [Act.put, pu1, pu2, pu3])
 refine tkA 12 15 ?_
 simp only [pa, pu2, pu3]
 refine tkA 13 16 ?_
 simp only [pa, pu2, pu3]
 refine tkA 14 17 ?_
 simp only [pa, pu2, pu3]
 refine tkL 15 18 hK.out ?_
 simp only [pa, pu2, pu3]
 refine onA 16 (fun K hKK => ?_)
 go_simp
 ((refine (within_c _ _ _ _).mono ?_); rintro e w' ⟨rfl, rfl⟩; rw [h4])
 dsimp only
 refine hKK.out _ _ (show Below w0.heap.size w0 _ by first | with_reducible assumption | exact Ev.bdn (Ev.br _) _ | exact Ev.bd1 (Ev.br _) | exact Ev.br _) (fun hHeld => ?_)
 clear hKK K
 (try simp only [Act.put, pu1, pu2, pu3])
 refine tkA 17 20 ?_
 simp only [pa, pu2, pu3]
 refine tkA 18 21 ?_
 simp only [pa, pu2, pu3]
 refine tkA 19 22 ?_
 simp only [pa, pu2, pu3]
 refine tkL 20 23 hK.out ?_
 simp only [pa, pu2, pu3]
 refine onA 21 (fun K hKK => ?_)
 go_simp
 ((refine (within_c _ _ _ _).mono ?_); rintro e w' ⟨rfl, rfl⟩; rw [h5])
 dsimp only
 refine hKK.out _ _ (show Below w0.heap.size w0 _ by first | with_reducible assumption | exact Ev.bdn (Ev.br _) _ | exact Ev.bd1 (Ev.br _) | exact Ev.br _) (fun hHeld => ?_)
 clear hKK K
 (try simp only [Act.put, pu1, pu2, pu3])
 refine tkA 22 25 ?_
 simp only [pa, pu2, pu3]
 refine tkA 23 26 ?_
 simp only [pa, pu2, pu3]
 refine tkA 24 27 ?_
 simp only [pa, pu2, pu3]
 refine tkL 25 28 hK.out ?_
 simp only [pa, pu2, pu3]
 refine onA 26 (fun K hKK => ?_)
 go_simp
 ((refine (within_c _ _ _ _).mono ?_); rintro e w' ⟨rfl, rfl⟩; rw [h6])
 dsimp only
 refine hKK.out _ _ (show Below w0.heap.size w0 _ by first | with_reducible assumption | exact Ev.bdn (Ev.br _) _ | exact Ev.bd1 (Ev.br _) | exact Ev.br _) (fun hHeld => ?_)
 clear hKK K
 (try simp only [Act.put, pu1, pu2, pu3])
 refine tkA 27 30 ?_
 simp only [pa, pu2, pu3]
 refine tkA 28 31 ?_
 simp only [pa, pu2, pu3]
 refine tkA 30 33 ?_
 simp only [pa, pu2, pu3]
 refine tkL 31 34 hK.out ?_
 simp only [pa, pu2, pu3]
 refine onA 29 (fun K hKK => ?_)
 go_simp
 ((refine (playersbox_c _).mono ?_); rintro e y1 ⟨rfl, g1⟩; have hgy1 := Ev.bt (show Below w0.heap.size w0 _ by first | with_reducible assumption | exact Ev.bdn (Ev.br _) _ | exact Ev.bd1 (Ev.br _) | exact Ev.br _) g1)
 dsimp only
 refine hKK.out _ _ hgy1 (fun hHeld => ?_)
 clear hKK K
 (try simp only [Act.put, pu1, pu2, pu3])
 refine onA 32 (fun K hKK => ?_)
 go_simp
 ((refine (Sh.inside_c _ _ _ _ _ _ _).mono ?_); rintro e y2 ⟨rfl, g2⟩; have hgy2 := Ev.bt (show Below w0.heap.size w0 _ by first | with_reducible assumption | exact Ev.bdn (Ev.br _) _ | exact Ev.bd1 (Ev.br _) | exact Ev.br _) g2; rw [h7])
 dsimp only
 refine hKK.out _ _ hgy2 (fun hHeld => ?_)
 clear hKK K
 (try simp only [Act.put, pu1, pu2, pu3])
 refine tkA 33 36 ?_
 simp only [pa, pu2, pu3]
 refine tkA 34 37 ?_
 simp only [pa, pu2, pu3]
 refine tkA 35 38 ?_
 simp only [pa, pu2, pu3]
 refine tkL 36 39 hK.out ?_
 simp only [pa, pu2, pu3]
 refine tkA 37 40 ?_
 simp only [pa, pu2, pu3]
 refine tkA 38 41 ?_
 simp only [pa, pu2, pu3]
 refine tkL 39 42 hK.out ?_
 simp only [pa, pu2, pu3]
 refine tkA 40 43 ?_
 simp only [pa, pu2, pu3]
 refine tkA 41 44 ?_
 simp only [pa, pu2, pu3]
 refine tkA 42 45 ?_
 simp only [pa, pu2, pu3]
 refine tkA 43 2 ?_
 simp only [pa, pu2, pu3]
 refine wpAnyH_done (by kernel_rfl) ?_ _
 refine NoPanic.normal ?_
 go_wp2_with fail
 go_ret
 exact ⟨by first | rfl | simp | simp_all, Ev.bt HB.out (by first | with_reducible assumption | exact Ev.bdn (Ev.br _) _ | exact Ev.bd1 (Ev.br _) | exact Ev.br _)⟩

end Go.Proofs.YtfclnhmijjlhdaaGreatDoor.Gm
