/- The document's places, boxes, players and states at their beginning (layer 12, game). -/
import Derived.Test.YtigjflacinlafaaGreatDoorGmRow
import Derived.Test.YtigjflacinlafaaGreatDoorJ2
namespace Go.Proofs.YtigjflacinlafaaGreatDoor.Gm
open Go.RowKit Go.Proofs.YtigjflacinlafaaGreatDoor.Fx Go.Proofs.YtigjflacinlafaaGreatDoor.Tg Go.Proofs.YtigjflacinlafaaGreatDoor.Dc
open Go.Proofs.YtigjflacinlafaaGreatDoor.Ev (Ev Ky addR pageI At ecs Pg Evs)
open Go.Proofs.YtigjflacinlafaaGreatDoor.Sh (In32 vec box insideB touchB slI mvP mvV wallI)
set_option linter.unusedVariables false

theorem rvec_c (x y : Int) (hx : -64 ≤ x ∧ x ≤ 64) (hy : -64 ≤ y ∧ y ≤ 64) (w : World) :
 Calls Tryz.prog 36 #[.int .i64 x, .int .i64 y] w fun e w' => e = .returned (vec (x * 65536) (y * 65536)) ∧ Below w.heap.size w w' := by
 go_enter Tryz.func36, Tryz.ntmps36
 go_wp2_with fail
 refine bodyPost_ret (Sh.results_vec rfl _ _ w.heap.size rfl _ _ (Sh.At.new w _ _)) rfl ?_
 exact ⟨rfl, Ev.bal (Ev.br w) _⟩

set_option maxRecDepth 100000 in
theorem rbox60_c (w : World) :
 Calls Tryz.prog 22 #[.int .i64 60] w fun e w' => e = .returned pbox ∧ Below w.heap.size w w' := by
 have HV1 := fun W => rvec_c (-60) (-60) (by decide) (by decide) W
 have HV2 := fun W => rvec_c 60 60 (by decide) (by decide) W
 rw [show (-60 : Int) * 65536 = -3932160 by decide] at HV1
 rw [show (60 : Int) * 65536 = 3932160 by decide] at HV2
 have HA := hid (At.new w #[.int .i32 0, .int .i32 0, .int .i32 0, .int .i32 0] 62)
 have HB := hid (Ev.bal (Ev.br w) (.cells #[.int .i32 0, .int .i32 0, .int .i32 0, .int .i32 0] 62))
 go_enter Tryz.func22, Tryz.ntmps22
 go_upto_region 1 with fail
 generalize World.alloc w _ = w0 at HA HB ⊢
 go_wp2_with (first
  | (go_at_call 36; ((with_reducible refine (HV1 _).mono ?_); rintro e w1 ⟨rfl, g1⟩; have HA1 := hid (HA.out.below g1); have HB1 := hid (Ev.bt HB.out g1)))
  | (go_at_call 36; ((with_reducible refine (HV2 _).mono ?_); rintro e w2 ⟨rfl, g2⟩; have HA2 := hid (HA1.out.below g2); have HB2 := hid (Ev.bt HB1.out g2)))
  | (refine wpList_store_at rfl 62 _ _ rfl w.heap.size 0 [.int .i32 (-3932160), .int .i32 (-3932160), .int .i32 3932160, .int .i32 3932160] rfl rfl 62 _ HA2.out (by kernel_rfl) (by decide) rfl ?_))
 have HS : Hid (At (w2.setRow w.heap.size #[.int .i32 (-3932160), .int .i32 (-3932160), .int .i32 3932160, .int .i32 3932160]) w.heap.size #[.int .i32 (-3932160), .int .i32 (-3932160), .int .i32 3932160, .int .i32 3932160] 62) := hid (at_row HA2.out _)
 have HB3 : Hid (Below w.heap.size w (w2.setRow w.heap.size #[.int .i32 (-3932160), .int .i32 (-3932160), .int .i32 3932160, .int .i32 3932160])) := hid (below_row HB2.out (Nat.le_refl _) _)
 refine bodyPost_ret (results_cell_row rfl _ _ w.heap.size 62 #[.int .i32 (-3932160), .int .i32 (-3932160), .int .i32 3932160, .int .i32 3932160] (0, 0) _ rfl HS.out Tryz.underlying62 rfl (by kernel_rfl)) rfl ?_
 exact ⟨rfl, HB3.out⟩

set_option maxRecDepth 100000 in
theorem rbox64_c (w : World) :
 Calls Tryz.prog 22 #[.int .i64 64] w fun e w' => e = .returned abox ∧ Below w.heap.size w w' := by
 have HV1 := fun W => rvec_c (-64) (-64) (by decide) (by decide) W
 have HV2 := fun W => rvec_c 64 64 (by decide) (by decide) W
 rw [show (-64 : Int) * 65536 = -4194304 by decide] at HV1
 rw [show (64 : Int) * 65536 = 4194304 by decide] at HV2
 have HA := hid (At.new w #[.int .i32 0, .int .i32 0, .int .i32 0, .int .i32 0] 62)
 have HB := hid (Ev.bal (Ev.br w) (.cells #[.int .i32 0, .int .i32 0, .int .i32 0, .int .i32 0] 62))
 go_enter Tryz.func22, Tryz.ntmps22
 go_upto_region 1 with fail
 generalize World.alloc w _ = w0 at HA HB ⊢
 go_wp2_with (first
  | (go_at_call 36; ((with_reducible refine (HV1 _).mono ?_); rintro e w1 ⟨rfl, g1⟩; have HA1 := hid (HA.out.below g1); have HB1 := hid (Ev.bt HB.out g1)))
  | (go_at_call 36; ((with_reducible refine (HV2 _).mono ?_); rintro e w2 ⟨rfl, g2⟩; have HA2 := hid (HA1.out.below g2); have HB2 := hid (Ev.bt HB1.out g2)))
  | (refine wpList_store_at rfl 62 _ _ rfl w.heap.size 0 [.int .i32 (-4194304), .int .i32 (-4194304), .int .i32 4194304, .int .i32 4194304] rfl rfl 62 _ HA2.out (by kernel_rfl) (by decide) rfl ?_))
 have HS : Hid (At (w2.setRow w.heap.size #[.int .i32 (-4194304), .int .i32 (-4194304), .int .i32 4194304, .int .i32 4194304]) w.heap.size #[.int .i32 (-4194304), .int .i32 (-4194304), .int .i32 4194304, .int .i32 4194304] 62) := hid (at_row HA2.out _)
 have HB3 : Hid (Below w.heap.size w (w2.setRow w.heap.size #[.int .i32 (-4194304), .int .i32 (-4194304), .int .i32 4194304, .int .i32 4194304])) := hid (below_row HB2.out (Nat.le_refl _) _)
 refine bodyPost_ret (results_cell_row rfl _ _ w.heap.size 62 #[.int .i32 (-4194304), .int .i32 (-4194304), .int .i32 4194304, .int .i32 4194304] (0, 0) _ rfl HS.out Tryz.underlying62 rfl (by kernel_rfl)) rfl ?_
 exact ⟨rfl, HB3.out⟩

set_option maxRecDepth 100000 in
theorem rfresh0_c (w : World) :
 Calls Tryz.prog 16 #[.int .i64 0] w fun e w' => e = .returned (plV fresh0) ∧ Below w.heap.size w w' := by
 have HV1 := fun W => rvec_c (-32) 0 (by decide) (by decide) W
 rw [show (-32 : Int) * 65536 = -2097152 by decide, show (0 : Int) * 65536 = 0 by decide] at HV1
 have HA := hid (At.new w (plC zeroP).toArray 29)
 have HB := hid (Ev.bal (Ev.br w) (.cells (plC zeroP).toArray 29))
 go_enter Tryz.func16, Tryz.ntmps16
 go_upto_region 1 with fail
 generalize hw : World.alloc w _ = w0
 have HA0 : Hid (At w0 w.heap.size (plC zeroP).toArray 29) := hid (by rw [← hw]; exact HA.out)
 have HB0 : Hid (Below w.heap.size w w0) := hid (by rw [← hw]; exact HB.out)
 clear hw HA HB
 go_wp2_with (first
  | (go_at_call 36; ((with_reducible refine (HV1 _).mono ?_); rintro e w1 ⟨rfl, g1⟩; have HA1 := hid (HA0.out.below g1); have HB1 := hid (Ev.bt HB0.out g1)))
  | (refine wpList_store_at rfl 29 _ _ rfl w.heap.size 0 (plC fresh0) rfl rfl 29 _ HA1.out (by kernel_rfl) (by decide) rfl ?_))
 have HS : Hid (At (w1.setRow w.heap.size (plC fresh0).toArray) w.heap.size (plC fresh0).toArray 29) := hid (at_row HA1.out _)
 have HB3 : Hid (Below w.heap.size w (w1.setRow w.heap.size (plC fresh0).toArray)) := hid (below_row HB1.out (Nat.le_refl _) _)
 refine bodyPost_ret (results_cell_row rfl _ _ w.heap.size 29 (plC fresh0).toArray (0, 0) _ rfl HS.out Tryz.underlying29 rfl (by kernel_rfl)) rfl ?_
 exact ⟨rfl, HB3.out⟩

set_option maxRecDepth 100000 in
theorem rfresh1_c (w : World) :
 Calls Tryz.prog 16 #[.int .i64 1] w fun e w' => e = .returned (plV fresh1) ∧ Below w.heap.size w w' := by
 have HV1 := fun W => rvec_c 32 0 (by decide) (by decide) W
 rw [show (32 : Int) * 65536 = 2097152 by decide, show (0 : Int) * 65536 = 0 by decide] at HV1
 have HA := hid (At.new w (plC zeroP).toArray 29)
 have HB := hid (Ev.bal (Ev.br w) (.cells (plC zeroP).toArray 29))
 go_enter Tryz.func16, Tryz.ntmps16
 go_upto_region 1 with fail
 generalize hw : World.alloc w _ = w0
 have HA0 : Hid (At w0 w.heap.size (plC zeroP).toArray 29) := hid (by rw [← hw]; exact HA.out)
 have HB0 : Hid (Below w.heap.size w w0) := hid (by rw [← hw]; exact HB.out)
 clear hw HA HB
 go_wp2_with (first
  | (go_at_call 36; ((with_reducible refine (HV1 _).mono ?_); rintro e w1 ⟨rfl, g1⟩; have HA1 := hid (HA0.out.below g1); have HB1 := hid (Ev.bt HB0.out g1)))
  | (refine wpList_store_at rfl 29 _ _ rfl w.heap.size 0 (plC fresh1) rfl rfl 29 _ HA1.out (by kernel_rfl) (by decide) rfl ?_))
 have HS : Hid (At (w1.setRow w.heap.size (plC fresh1).toArray) w.heap.size (plC fresh1).toArray 29) := hid (at_row HA1.out _)
 have HB3 : Hid (Below w.heap.size w (w1.setRow w.heap.size (plC fresh1).toArray)) := hid (below_row HB1.out (Nat.le_refl _) _)
 refine bodyPost_ret (results_cell_row rfl _ _ w.heap.size 29 (plC fresh1).toArray (0, 0) _ rfl HS.out Tryz.underlying29 rfl (by kernel_rfl)) rfl ?_
 exact ⟨rfl, HB3.out⟩

set_option maxRecDepth 100000 in
set_option maxHeartbeats 2000000 in
theorem rstart_c (seed : Int) (w : World) :
 Calls Tryz.prog 8 #[.int .u32 seed] w fun e w' => e = .returned (.agg (stC (beginS seed)).toArray) ∧ Below w.heap.size w w' := by
 have HN := hid (At.new w (stC zeroS).toArray 35)
 have HB := hid (Ev.bal (Ev.br w) (.cells (stC zeroS).toArray 35))
 go_enter Tryz.func8, Tryz.ntmps8
 go_upto_region 1 with fail
 generalize hw : World.alloc w _ = w0
 have HN0 : Hid (At w0 w.heap.size (stC zeroS).toArray 35) := hid (by rw [← hw]; exact HN.out)
 have HB0 : Hid (Below w.heap.size w w0) := hid (by rw [← hw]; exact HB.out)
 clear hw HN HB
 go_wp2_with (first
  | (go_at_call 16; ((with_reducible refine (rfresh0_c _).mono ?_); rintro e w1 ⟨rfl, g1⟩; have HN1 := hid (HN0.out.below g1); have HB1 := hid (Ev.bt HB0.out g1)))
  | (go_at_call 16; ((with_reducible refine (rfresh1_c _).mono ?_); rintro e w2 ⟨rfl, g2⟩; have HN2 := hid (HN1.out.below g2); have HB2 := hid (Ev.bt HB1.out g2)))
  | (refine wpList_store_at rfl 35 _ _ rfl w.heap.size 0 (stC (beginS seed)) rfl rfl 35 _ HN2.out (by kernel_rfl) (by show 60 ≤ 60; decide) rfl ?_))
 have HS : Hid (At (w2.setRow w.heap.size (stC (beginS seed)).toArray) w.heap.size (stC (beginS seed)).toArray 35) := hid (at_row HN2.out _)
 have HB3 : Hid (Below w.heap.size w (w2.setRow w.heap.size (stC (beginS seed)).toArray)) := hid (below_row HB2.out (Nat.le_refl _) _)
 refine bodyPost_ret (results_cell_row rfl _ _ w.heap.size 35 (stC (beginS seed)).toArray (0, 0) _ rfl HS.out Tryz.underlying35 rfl (by kernel_rfl)) rfl ?_
 exact ⟨rfl, HB3.out⟩

theorem bset_k2 {w W : World} {m b : Nat} (h : Below m w W) (hb : m ≤ b) (j : Nat) (v : Value) : Below m w (W.setCell ⟨b, j, none⟩ v) := h.setCell hb v
theorem i32_wave (a : Int) : In32 (waveI a) := by
 have := wave_bd a
 exact ⟨by omega, by omega⟩

set_option maxRecDepth 100000 in
theorem rway_c (f n : Int) (hf : 0 ≤ f ∧ f ≤ 65535) (hn : 0 ≤ n ∧ n ≤ 262144) (w : World) :
 Calls Tryz.prog 40 #[.int .i64 f, .int .i64 n] w fun e w' => e = .returned (vec (wayX f n) (wayY f n)) ∧ Below w.heap.size w w' := by
 have HSc : ∀ W, Calls Tryz.prog 38 #[vec (waveI (f + 16384)) (waveI f), .int .i32 n] W fun e w' => e = .returned (vec (wayX f n) (wayY f n)) ∧ Below W.heap.size W w' := fun W => Sh.rscale_c (waveI (f + 16384)) (waveI f) n (i32_wave _) (i32_wave _) ⟨by omega, by omega⟩ W
 have HA := hid (At.new w #[.int .i32 0, .int .i32 0] 27)
 have HB := hid (Ev.bal (Ev.br w) (.cells #[.int .i32 0, .int .i32 0] 27))
 go_enter Tryz.func40, Tryz.ntmps40
 go_upto_region 1 with fail
 generalize World.alloc w _ = w0 at HA HB ⊢
 go_wp2_with (first
  | (go_at_call 70; ((with_reducible refine (rsin_c _ _).mono ?_); rintro e w' ⟨rfl, rfl⟩))
  | (go_at_call 38; ((with_reducible refine (HSc _).mono ?_); rintro e w1 ⟨rfl, g1⟩; have HA1 := hid (HA.out.below g1); have HB1 := hid (Ev.bt HB.out g1); obtain ⟨c0, c1⟩ := HA1.out.two; have c2 := HA1.out.frozen)))
 refine bodyPost_ret (Sh.results_vec rfl _ _ w.heap.size rfl _ _ (at_set (at_set HA1.out 0 (.int .i32 (wayX f n))) 1 (.int .i32 (wayY f n)))) rfl ?_
 exact ⟨rfl, bset_k2 (bset_k2 HB1.out (Nat.le_refl _) _ _) (Nat.le_refl _) _ _⟩

end Go.Proofs.YtigjflacinlafaaGreatDoor.Gm
