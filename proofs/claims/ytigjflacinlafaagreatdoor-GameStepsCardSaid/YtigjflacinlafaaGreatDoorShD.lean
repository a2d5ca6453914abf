/- What the document's Move returns (layer 10, shape). -/
import Derived.Test.YtigjflacinlafaaGreatDoorJ2
namespace Go.Proofs.YtigjflacinlafaaGreatDoor.Sh
open Go.RowKit Go.Proofs.YtigjflacinlafaaGreatDoor.Fx Go.Proofs.YtigjflacinlafaaGreatDoor.Tg
set_option linter.unusedVariables false

set_option maxRecDepth 100000 in
theorem rmove_11 (p q u v a b c d : Int) (hp : In32 p) (hq : In32 q) (hu : In32 u) (hv : In32 v) (w : World) (k1 : satI (p + u) < a) (m1 : satI (q + v) < b) :
 Calls Tryz.prog 42 #[vec p q, vec u v, box a b c d] w fun e w' => e = .returned (.tuple #[vec (mvP p u a c) (mvP q v b d), vec (mvV p u a c) (mvV q v b d), .int .i64 (wallI p q u v a b c d)]) ∧ Below w.heap.size w w' := by
 have hF := hid (five_new w p q u v a b c d)
 obtain ⟨e1, e2, e3⟩ := mv_1 p u a c k1
 obtain ⟨x1, x2, x3⟩ := mv_1 q v b d m1
 unfold wallI
 rw [e1, e2, e3, x1, x2, x3]
 clear e1 e2 e3 x1 x2 x3
 go_enter Tryz.func42, Tryz.ntmps42
 go_upto_region 3 with (go_at_call 39; ((with_reducible refine (rplus_c _ _ _ _ hp hq hu hv _).mono ?_); rintro e y ⟨rfl, hy⟩; have hG := hid (Six.new (hF.out.below hy) (satI (p + u)) (satI (q + v))); clear hy))
 generalize y.alloc (.cells #[.int .i32 (satI (p + u)), .int .i32 (satI (q + v))] 27) = Z at hG ⊢
 generalize y.heap.size = B at hG ⊢
 have hfar := hG.out.far
 obtain ⟨q0, q1⟩ := hG.out.way.two
 obtain ⟨b0, b1, b2, b3⟩ := hG.out.walls.four
 obtain ⟨r0, r1⟩ := hG.out.place.two
 have g1 := hG.out.way.frozen
 have g2 := hG.out.place.frozen
 go_upto_region 11 with (go_at_call 73; ((with_reducible refine (rback_c _ hu _).mono ?_); rintro e w' ⟨rfl, rfl⟩))
 have hH := hid ((hG.out.px a).wx (backI u))
 generalize (Z.setCell ⟨B, 0, none⟩ (.int .i32 a)).setCell ⟨w.heap.size + 1, 0, none⟩ (.int .i32 (backI u)) = Z2 at hH ⊢
 clear q0 q1 b0 b1 b2 b3 r0 r1 g1 g2 hG
 obtain ⟨q0, q1⟩ := hH.out.way.two
 obtain ⟨b0, b1, b2, b3⟩ := hH.out.walls.four
 obtain ⟨r0, r1⟩ := hH.out.place.two
 have g1 := hH.out.way.frozen
 have g2 := hH.out.place.frozen
 go_upto_region 19 with (go_at_call 73; ((with_reducible refine (rback_c _ hv _).mono ?_); rintro e w' ⟨rfl, rfl⟩))
 have hI := hid ((hH.out.py b).wy (backI v))
 generalize (Z2.setCell ⟨B, 1, none⟩ (.int .i32 b)).setCell ⟨w.heap.size + 1, 1, none⟩ (.int .i32 (backI v)) = Z3 at hI ⊢
 clear q0 q1 b0 b1 b2 b3 r0 r1 g1 g2 hH
 obtain ⟨q0, q1⟩ := hI.out.way.two
 obtain ⟨b0, b1, b2, b3⟩ := hI.out.walls.four
 obtain ⟨r0, r1⟩ := hI.out.place.two
 have g1 := hI.out.way.frozen
 have g2 := hI.out.place.frozen
 have hJ := hid (hI.out.fin)
 have n1 : w.heap.size + 1 + 1 + 1 ≠ B := by omega
 have n2 : w.heap.size + 1 + 1 + 1 + 1 ≠ B := by omega
 have n3 : w.heap.size + 1 + 1 ≠ w.heap.size := by omega
 have n4 : w.heap.size + 1 + 1 + 1 ≠ w.heap.size := by omega
 obtain ⟨c0, c1⟩ := hI.out.one.two
 obtain ⟨d0, d1⟩ := hI.out.two.two
 have g3 := hI.out.one.frozen
 have g4 := hI.out.two.frozen
 go_region_held3 (fun W => W.cell? ⟨B, 0, none⟩ = some (.int .i32 a) ∧ W.cell? ⟨B, 1, none⟩ = some (.int .i32 b) ∧ W.cell? ⟨w.heap.size + 1, 0, none⟩ = some (.int .i32 (backI u)) ∧ W.cell? ⟨w.heap.size + 1, 1, none⟩ = some (.int .i32 (backI v))) (go_keep) (fail)
 go_wp2_with fail
 refine bodyPost_ret (results_rmove rfl _ _ (w.heap.size + 1 + 1 + 1) (w.heap.size + 1 + 1 + 1 + 1) rfl rfl _ _ _ _ hJ.out.1.drew hJ.out.2.1.drew) rfl ?_
 exact ⟨rfl, bd1 hJ.out.2.2⟩

set_option maxRecDepth 100000 in
theorem rmove_12 (p q u v a b c d : Int) (hp : In32 p) (hq : In32 q) (hu : In32 u) (hv : In32 v) (w : World) (k1 : satI (p + u) < a) (m1 : ¬ satI (q + v) < b) (m2 : d < satI (q + v)) :
 Calls Tryz.prog 42 #[vec p q, vec u v, box a b c d] w fun e w' => e = .returned (.tuple #[vec (mvP p u a c) (mvP q v b d), vec (mvV p u a c) (mvV q v b d), .int .i64 (wallI p q u v a b c d)]) ∧ Below w.heap.size w w' := by
 have hF := hid (five_new w p q u v a b c d)
 obtain ⟨e1, e2, e3⟩ := mv_1 p u a c k1
 obtain ⟨x1, x2, x3⟩ := mv_2 q v b d m1 m2
 unfold wallI
 rw [e1, e2, e3, x1, x2, x3]
 clear e1 e2 e3 x1 x2 x3
 go_enter Tryz.func42, Tryz.ntmps42
 go_upto_region 3 with (go_at_call 39; ((with_reducible refine (rplus_c _ _ _ _ hp hq hu hv _).mono ?_); rintro e y ⟨rfl, hy⟩; have hG := hid (Six.new (hF.out.below hy) (satI (p + u)) (satI (q + v))); clear hy))
 generalize y.alloc (.cells #[.int .i32 (satI (p + u)), .int .i32 (satI (q + v))] 27) = Z at hG ⊢
 generalize y.heap.size = B at hG ⊢
 have hfar := hG.out.far
 obtain ⟨q0, q1⟩ := hG.out.way.two
 obtain ⟨b0, b1, b2, b3⟩ := hG.out.walls.four
 obtain ⟨r0, r1⟩ := hG.out.place.two
 have g1 := hG.out.way.frozen
 have g2 := hG.out.place.frozen
 go_upto_region 11 with (go_at_call 73; ((with_reducible refine (rback_c _ hu _).mono ?_); rintro e w' ⟨rfl, rfl⟩))
 have hH := hid ((hG.out.px a).wx (backI u))
 generalize (Z.setCell ⟨B, 0, none⟩ (.int .i32 a)).setCell ⟨w.heap.size + 1, 0, none⟩ (.int .i32 (backI u)) = Z2 at hH ⊢
 clear q0 q1 b0 b1 b2 b3 r0 r1 g1 g2 hG
 obtain ⟨q0, q1⟩ := hH.out.way.two
 obtain ⟨b0, b1, b2, b3⟩ := hH.out.walls.four
 obtain ⟨r0, r1⟩ := hH.out.place.two
 have g1 := hH.out.way.frozen
 have g2 := hH.out.place.frozen
 go_upto_region 19 with (go_at_call 73; ((with_reducible refine (rback_c _ hv _).mono ?_); rintro e w' ⟨rfl, rfl⟩))
 have hI := hid ((hH.out.py d).wy (backI v))
 generalize (Z2.setCell ⟨B, 1, none⟩ (.int .i32 d)).setCell ⟨w.heap.size + 1, 1, none⟩ (.int .i32 (backI v)) = Z3 at hI ⊢
 clear q0 q1 b0 b1 b2 b3 r0 r1 g1 g2 hH
 obtain ⟨q0, q1⟩ := hI.out.way.two
 obtain ⟨b0, b1, b2, b3⟩ := hI.out.walls.four
 obtain ⟨r0, r1⟩ := hI.out.place.two
 have g1 := hI.out.way.frozen
 have g2 := hI.out.place.frozen
 have hJ := hid (hI.out.fin)
 have n1 : w.heap.size + 1 + 1 + 1 ≠ B := by omega
 have n2 : w.heap.size + 1 + 1 + 1 + 1 ≠ B := by omega
 have n3 : w.heap.size + 1 + 1 ≠ w.heap.size := by omega
 have n4 : w.heap.size + 1 + 1 + 1 ≠ w.heap.size := by omega
 obtain ⟨c0, c1⟩ := hI.out.one.two
 obtain ⟨d0, d1⟩ := hI.out.two.two
 have g3 := hI.out.one.frozen
 have g4 := hI.out.two.frozen
 go_region_held3 (fun W => W.cell? ⟨B, 0, none⟩ = some (.int .i32 a) ∧ W.cell? ⟨B, 1, none⟩ = some (.int .i32 d) ∧ W.cell? ⟨w.heap.size + 1, 0, none⟩ = some (.int .i32 (backI u)) ∧ W.cell? ⟨w.heap.size + 1, 1, none⟩ = some (.int .i32 (backI v))) (go_keep) (fail)
 go_wp2_with fail
 refine bodyPost_ret (results_rmove rfl _ _ (w.heap.size + 1 + 1 + 1) (w.heap.size + 1 + 1 + 1 + 1) rfl rfl _ _ _ _ hJ.out.1.drew hJ.out.2.1.drew) rfl ?_
 exact ⟨rfl, bd1 hJ.out.2.2⟩

set_option maxRecDepth 100000 in
theorem rmove_13 (p q u v a b c d : Int) (hp : In32 p) (hq : In32 q) (hu : In32 u) (hv : In32 v) (w : World) (k1 : satI (p + u) < a) (m1 : ¬ satI (q + v) < b) (m2 : ¬ d < satI (q + v)) :
 Calls Tryz.prog 42 #[vec p q, vec u v, box a b c d] w fun e w' => e = .returned (.tuple #[vec (mvP p u a c) (mvP q v b d), vec (mvV p u a c) (mvV q v b d), .int .i64 (wallI p q u v a b c d)]) ∧ Below w.heap.size w w' := by
 have hF := hid (five_new w p q u v a b c d)
 obtain ⟨e1, e2, e3⟩ := mv_1 p u a c k1
 obtain ⟨x1, x2, x3⟩ := mv_3 q v b d m1 m2
 unfold wallI
 rw [e1, e2, e3, x1, x2, x3]
 clear e1 e2 e3 x1 x2 x3
 go_enter Tryz.func42, Tryz.ntmps42
 go_upto_region 3 with (go_at_call 39; ((with_reducible refine (rplus_c _ _ _ _ hp hq hu hv _).mono ?_); rintro e y ⟨rfl, hy⟩; have hG := hid (Six.new (hF.out.below hy) (satI (p + u)) (satI (q + v))); clear hy))
 generalize y.alloc (.cells #[.int .i32 (satI (p + u)), .int .i32 (satI (q + v))] 27) = Z at hG ⊢
 generalize y.heap.size = B at hG ⊢
 have hfar := hG.out.far
 obtain ⟨q0, q1⟩ := hG.out.way.two
 obtain ⟨b0, b1, b2, b3⟩ := hG.out.walls.four
 obtain ⟨r0, r1⟩ := hG.out.place.two
 have g1 := hG.out.way.frozen
 have g2 := hG.out.place.frozen
 go_upto_region 11 with (go_at_call 73; ((with_reducible refine (rback_c _ hu _).mono ?_); rintro e w' ⟨rfl, rfl⟩))
 have hH := hid ((hG.out.px a).wx (backI u))
 generalize (Z.setCell ⟨B, 0, none⟩ (.int .i32 a)).setCell ⟨w.heap.size + 1, 0, none⟩ (.int .i32 (backI u)) = Z2 at hH ⊢
 clear q0 q1 b0 b1 b2 b3 r0 r1 g1 g2 hG
 obtain ⟨q0, q1⟩ := hH.out.way.two
 obtain ⟨b0, b1, b2, b3⟩ := hH.out.walls.four
 obtain ⟨r0, r1⟩ := hH.out.place.two
 have g1 := hH.out.way.frozen
 have g2 := hH.out.place.frozen
 go_upto_region 19 with (go_at_call 73; ((with_reducible refine (rback_c _ hv _).mono ?_); rintro e w' ⟨rfl, rfl⟩))
 have hJ := hid (hH.out.fin)
 have n1 : w.heap.size + 1 + 1 + 1 ≠ B := by omega
 have n2 : w.heap.size + 1 + 1 + 1 + 1 ≠ B := by omega
 have n3 : w.heap.size + 1 + 1 ≠ w.heap.size := by omega
 have n4 : w.heap.size + 1 + 1 + 1 ≠ w.heap.size := by omega
 obtain ⟨c0, c1⟩ := hH.out.one.two
 obtain ⟨d0, d1⟩ := hH.out.two.two
 have g3 := hH.out.one.frozen
 have g4 := hH.out.two.frozen
 go_region_held3 (fun W => W.cell? ⟨B, 0, none⟩ = some (.int .i32 a) ∧ W.cell? ⟨B, 1, none⟩ = some (.int .i32 (satI (q + v))) ∧ W.cell? ⟨w.heap.size + 1, 0, none⟩ = some (.int .i32 (backI u)) ∧ W.cell? ⟨w.heap.size + 1, 1, none⟩ = some (.int .i32 v)) (go_keep) (fail)
 go_wp2_with fail
 refine bodyPost_ret (results_rmove rfl _ _ (w.heap.size + 1 + 1 + 1) (w.heap.size + 1 + 1 + 1 + 1) rfl rfl _ _ _ _ hJ.out.1.drew hJ.out.2.1.drew) rfl ?_
 exact ⟨rfl, bd1 hJ.out.2.2⟩

set_option maxRecDepth 100000 in
theorem rmove_21 (p q u v a b c d : Int) (hp : In32 p) (hq : In32 q) (hu : In32 u) (hv : In32 v) (w : World) (k1 : ¬ satI (p + u) < a) (k2 : c < satI (p + u)) (m1 : satI (q + v) < b) :
 Calls Tryz.prog 42 #[vec p q, vec u v, box a b c d] w fun e w' => e = .returned (.tuple #[vec (mvP p u a c) (mvP q v b d), vec (mvV p u a c) (mvV q v b d), .int .i64 (wallI p q u v a b c d)]) ∧ Below w.heap.size w w' := by
 have hF := hid (five_new w p q u v a b c d)
 obtain ⟨e1, e2, e3⟩ := mv_2 p u a c k1 k2
 obtain ⟨x1, x2, x3⟩ := mv_1 q v b d m1
 unfold wallI
 rw [e1, e2, e3, x1, x2, x3]
 clear e1 e2 e3 x1 x2 x3
 go_enter Tryz.func42, Tryz.ntmps42
 go_upto_region 3 with (go_at_call 39; ((with_reducible refine (rplus_c _ _ _ _ hp hq hu hv _).mono ?_); rintro e y ⟨rfl, hy⟩; have hG := hid (Six.new (hF.out.below hy) (satI (p + u)) (satI (q + v))); clear hy))
 generalize y.alloc (.cells #[.int .i32 (satI (p + u)), .int .i32 (satI (q + v))] 27) = Z at hG ⊢
 generalize y.heap.size = B at hG ⊢
 have hfar := hG.out.far
 obtain ⟨q0, q1⟩ := hG.out.way.two
 obtain ⟨b0, b1, b2, b3⟩ := hG.out.walls.four
 obtain ⟨r0, r1⟩ := hG.out.place.two
 have g1 := hG.out.way.frozen
 have g2 := hG.out.place.frozen
 go_upto_region 11 with (go_at_call 73; ((with_reducible refine (rback_c _ hu _).mono ?_); rintro e w' ⟨rfl, rfl⟩))
 have hH := hid ((hG.out.px c).wx (backI u))
 generalize (Z.setCell ⟨B, 0, none⟩ (.int .i32 c)).setCell ⟨w.heap.size + 1, 0, none⟩ (.int .i32 (backI u)) = Z2 at hH ⊢
 clear q0 q1 b0 b1 b2 b3 r0 r1 g1 g2 hG
 obtain ⟨q0, q1⟩ := hH.out.way.two
 obtain ⟨b0, b1, b2, b3⟩ := hH.out.walls.four
 obtain ⟨r0, r1⟩ := hH.out.place.two
 have g1 := hH.out.way.frozen
 have g2 := hH.out.place.frozen
 go_upto_region 19 with (go_at_call 73; ((with_reducible refine (rback_c _ hv _).mono ?_); rintro e w' ⟨rfl, rfl⟩))
 have hI := hid ((hH.out.py b).wy (backI v))
 generalize (Z2.setCell ⟨B, 1, none⟩ (.int .i32 b)).setCell ⟨w.heap.size + 1, 1, none⟩ (.int .i32 (backI v)) = Z3 at hI ⊢
 clear q0 q1 b0 b1 b2 b3 r0 r1 g1 g2 hH
 obtain ⟨q0, q1⟩ := hI.out.way.two
 obtain ⟨b0, b1, b2, b3⟩ := hI.out.walls.four
 obtain ⟨r0, r1⟩ := hI.out.place.two
 have g1 := hI.out.way.frozen
 have g2 := hI.out.place.frozen
 have hJ := hid (hI.out.fin)
 have n1 : w.heap.size + 1 + 1 + 1 ≠ B := by omega
 have n2 : w.heap.size + 1 + 1 + 1 + 1 ≠ B := by omega
 have n3 : w.heap.size + 1 + 1 ≠ w.heap.size := by omega
 have n4 : w.heap.size + 1 + 1 + 1 ≠ w.heap.size := by omega
 obtain ⟨c0, c1⟩ := hI.out.one.two
 obtain ⟨d0, d1⟩ := hI.out.two.two
 have g3 := hI.out.one.frozen
 have g4 := hI.out.two.frozen
 go_region_held3 (fun W => W.cell? ⟨B, 0, none⟩ = some (.int .i32 c) ∧ W.cell? ⟨B, 1, none⟩ = some (.int .i32 b) ∧ W.cell? ⟨w.heap.size + 1, 0, none⟩ = some (.int .i32 (backI u)) ∧ W.cell? ⟨w.heap.size + 1, 1, none⟩ = some (.int .i32 (backI v))) (go_keep) (fail)
 go_wp2_with fail
 refine bodyPost_ret (results_rmove rfl _ _ (w.heap.size + 1 + 1 + 1) (w.heap.size + 1 + 1 + 1 + 1) rfl rfl _ _ _ _ hJ.out.1.drew hJ.out.2.1.drew) rfl ?_
 exact ⟨rfl, bd1 hJ.out.2.2⟩

set_option maxRecDepth 100000 in
theorem rmove_22 (p q u v a b c d : Int) (hp : In32 p) (hq : In32 q) (hu : In32 u) (hv : In32 v) (w : World) (k1 : ¬ satI (p + u) < a) (k2 : c < satI (p + u)) (m1 : ¬ satI (q + v) < b) (m2 : d < satI (q + v)) :
 Calls Tryz.prog 42 #[vec p q, vec u v, box a b c d] w fun e w' => e = .returned (.tuple #[vec (mvP p u a c) (mvP q v b d), vec (mvV p u a c) (mvV q v b d), .int .i64 (wallI p q u v a b c d)]) ∧ Below w.heap.size w w' := by
 have hF := hid (five_new w p q u v a b c d)
 obtain ⟨e1, e2, e3⟩ := mv_2 p u a c k1 k2
 obtain ⟨x1, x2, x3⟩ := mv_2 q v b d m1 m2
 unfold wallI
 rw [e1, e2, e3, x1, x2, x3]
 clear e1 e2 e3 x1 x2 x3
 go_enter Tryz.func42, Tryz.ntmps42
 go_upto_region 3 with (go_at_call 39; ((with_reducible refine (rplus_c _ _ _ _ hp hq hu hv _).mono ?_); rintro e y ⟨rfl, hy⟩; have hG := hid (Six.new (hF.out.below hy) (satI (p + u)) (satI (q + v))); clear hy))
 generalize y.alloc (.cells #[.int .i32 (satI (p + u)), .int .i32 (satI (q + v))] 27) = Z at hG ⊢
 generalize y.heap.size = B at hG ⊢
 have hfar := hG.out.far
 obtain ⟨q0, q1⟩ := hG.out.way.two
 obtain ⟨b0, b1, b2, b3⟩ := hG.out.walls.four
 obtain ⟨r0, r1⟩ := hG.out.place.two
 have g1 := hG.out.way.frozen
 have g2 := hG.out.place.frozen
 go_upto_region 11 with (go_at_call 73; ((with_reducible refine (rback_c _ hu _).mono ?_); rintro e w' ⟨rfl, rfl⟩))
 have hH := hid ((hG.out.px c).wx (backI u))
 generalize (Z.setCell ⟨B, 0, none⟩ (.int .i32 c)).setCell ⟨w.heap.size + 1, 0, none⟩ (.int .i32 (backI u)) = Z2 at hH ⊢
 clear q0 q1 b0 b1 b2 b3 r0 r1 g1 g2 hG
 obtain ⟨q0, q1⟩ := hH.out.way.two
 obtain ⟨b0, b1, b2, b3⟩ := hH.out.walls.four
 obtain ⟨r0, r1⟩ := hH.out.place.two
 have g1 := hH.out.way.frozen
 have g2 := hH.out.place.frozen
 go_upto_region 19 with (go_at_call 73; ((with_reducible refine (rback_c _ hv _).mono ?_); rintro e w' ⟨rfl, rfl⟩))
 have hI := hid ((hH.out.py d).wy (backI v))
 generalize (Z2.setCell ⟨B, 1, none⟩ (.int .i32 d)).setCell ⟨w.heap.size + 1, 1, none⟩ (.int .i32 (backI v)) = Z3 at hI ⊢
 clear q0 q1 b0 b1 b2 b3 r0 r1 g1 g2 hH
 obtain ⟨q0, q1⟩ := hI.out.way.two
 obtain ⟨b0, b1, b2, b3⟩ := hI.out.walls.four
 obtain ⟨r0, r1⟩ := hI.out.place.two
 have g1 := hI.out.way.frozen
 have g2 := hI.out.place.frozen
 have hJ := hid (hI.out.fin)
 have n1 : w.heap.size + 1 + 1 + 1 ≠ B := by omega
 have n2 : w.heap.size + 1 + 1 + 1 + 1 ≠ B := by omega
 have n3 : w.heap.size + 1 + 1 ≠ w.heap.size := by omega
 have n4 : w.heap.size + 1 + 1 + 1 ≠ w.heap.size := by omega
 obtain ⟨c0, c1⟩ := hI.out.one.two
 obtain ⟨d0, d1⟩ := hI.out.two.two
 have g3 := hI.out.one.frozen
 have g4 := hI.out.two.frozen
 go_region_held3 (fun W => W.cell? ⟨B, 0, none⟩ = some (.int .i32 c) ∧ W.cell? ⟨B, 1, none⟩ = some (.int .i32 d) ∧ W.cell? ⟨w.heap.size + 1, 0, none⟩ = some (.int .i32 (backI u)) ∧ W.cell? ⟨w.heap.size + 1, 1, none⟩ = some (.int .i32 (backI v))) (go_keep) (fail)
 go_wp2_with fail
 refine bodyPost_ret (results_rmove rfl _ _ (w.heap.size + 1 + 1 + 1) (w.heap.size + 1 + 1 + 1 + 1) rfl rfl _ _ _ _ hJ.out.1.drew hJ.out.2.1.drew) rfl ?_
 exact ⟨rfl, bd1 hJ.out.2.2⟩

set_option maxRecDepth 100000 in
theorem rmove_23 (p q u v a b c d : Int) (hp : In32 p) (hq : In32 q) (hu : In32 u) (hv : In32 v) (w : World) (k1 : ¬ satI (p + u) < a) (k2 : c < satI (p + u)) (m1 : ¬ satI (q + v) < b) (m2 : ¬ d < satI (q + v)) :
 Calls Tryz.prog 42 #[vec p q, vec u v, box a b c d] w fun e w' => e = .returned (.tuple #[vec (mvP p u a c) (mvP q v b d), vec (mvV p u a c) (mvV q v b d), .int .i64 (wallI p q u v a b c d)]) ∧ Below w.heap.size w w' := by
 have hF := hid (five_new w p q u v a b c d)
 obtain ⟨e1, e2, e3⟩ := mv_2 p u a c k1 k2
 obtain ⟨x1, x2, x3⟩ := mv_3 q v b d m1 m2
 unfold wallI
 rw [e1, e2, e3, x1, x2, x3]
 clear e1 e2 e3 x1 x2 x3
 go_enter Tryz.func42, Tryz.ntmps42
 go_upto_region 3 with (go_at_call 39; ((with_reducible refine (rplus_c _ _ _ _ hp hq hu hv _).mono ?_); rintro e y ⟨rfl, hy⟩; have hG := hid (Six.new (hF.out.below hy) (satI (p + u)) (satI (q + v))); clear hy))
 generalize y.alloc (.cells #[.int .i32 (satI (p + u)), .int .i32 (satI (q + v))] 27) = Z at hG ⊢
 generalize y.heap.size = B at hG ⊢
 have hfar := hG.out.far
 obtain ⟨q0, q1⟩ := hG.out.way.two
 obtain ⟨b0, b1, b2, b3⟩ := hG.out.walls.four
 obtain ⟨r0, r1⟩ := hG.out.place.two
 have g1 := hG.out.way.frozen
 have g2 := hG.out.place.frozen
 go_upto_region 11 with (go_at_call 73; ((with_reducible refine (rback_c _ hu _).mono ?_); rintro e w' ⟨rfl, rfl⟩))
 have hH := hid ((hG.out.px c).wx (backI u))
 generalize (Z.setCell ⟨B, 0, none⟩ (.int .i32 c)).setCell ⟨w.heap.size + 1, 0, none⟩ (.int .i32 (backI u)) = Z2 at hH ⊢
 clear q0 q1 b0 b1 b2 b3 r0 r1 g1 g2 hG
 obtain ⟨q0, q1⟩ := hH.out.way.two
 obtain ⟨b0, b1, b2, b3⟩ := hH.out.walls.four
 obtain ⟨r0, r1⟩ := hH.out.place.two
 have g1 := hH.out.way.frozen
 have g2 := hH.out.place.frozen
 go_upto_region 19 with (go_at_call 73; ((with_reducible refine (rback_c _ hv _).mono ?_); rintro e w' ⟨rfl, rfl⟩))
 have hJ := hid (hH.out.fin)
 have n1 : w.heap.size + 1 + 1 + 1 ≠ B := by omega
 have n2 : w.heap.size + 1 + 1 + 1 + 1 ≠ B := by omega
 have n3 : w.heap.size + 1 + 1 ≠ w.heap.size := by omega
 have n4 : w.heap.size + 1 + 1 + 1 ≠ w.heap.size := by omega
 obtain ⟨c0, c1⟩ := hH.out.one.two
 obtain ⟨d0, d1⟩ := hH.out.two.two
 have g3 := hH.out.one.frozen
 have g4 := hH.out.two.frozen
 go_region_held3 (fun W => W.cell? ⟨B, 0, none⟩ = some (.int .i32 c) ∧ W.cell? ⟨B, 1, none⟩ = some (.int .i32 (satI (q + v))) ∧ W.cell? ⟨w.heap.size + 1, 0, none⟩ = some (.int .i32 (backI u)) ∧ W.cell? ⟨w.heap.size + 1, 1, none⟩ = some (.int .i32 v)) (go_keep) (fail)
 go_wp2_with fail
 refine bodyPost_ret (results_rmove rfl _ _ (w.heap.size + 1 + 1 + 1) (w.heap.size + 1 + 1 + 1 + 1) rfl rfl _ _ _ _ hJ.out.1.drew hJ.out.2.1.drew) rfl ?_
 exact ⟨rfl, bd1 hJ.out.2.2⟩

set_option maxRecDepth 100000 in
theorem rmove_31 (p q u v a b c d : Int) (hp : In32 p) (hq : In32 q) (hu : In32 u) (hv : In32 v) (w : World) (k1 : ¬ satI (p + u) < a) (k2 : ¬ c < satI (p + u)) (m1 : satI (q + v) < b) :
 Calls Tryz.prog 42 #[vec p q, vec u v, box a b c d] w fun e w' => e = .returned (.tuple #[vec (mvP p u a c) (mvP q v b d), vec (mvV p u a c) (mvV q v b d), .int .i64 (wallI p q u v a b c d)]) ∧ Below w.heap.size w w' := by
 have hF := hid (five_new w p q u v a b c d)
 obtain ⟨e1, e2, e3⟩ := mv_3 p u a c k1 k2
 obtain ⟨x1, x2, x3⟩ := mv_1 q v b d m1
 unfold wallI
 rw [e1, e2, e3, x1, x2, x3]
 clear e1 e2 e3 x1 x2 x3
 go_enter Tryz.func42, Tryz.ntmps42
 go_upto_region 3 with (go_at_call 39; ((with_reducible refine (rplus_c _ _ _ _ hp hq hu hv _).mono ?_); rintro e y ⟨rfl, hy⟩; have hG := hid (Six.new (hF.out.below hy) (satI (p + u)) (satI (q + v))); clear hy))
 generalize y.alloc (.cells #[.int .i32 (satI (p + u)), .int .i32 (satI (q + v))] 27) = Z at hG ⊢
 generalize y.heap.size = B at hG ⊢
 have hfar := hG.out.far
 obtain ⟨q0, q1⟩ := hG.out.way.two
 obtain ⟨b0, b1, b2, b3⟩ := hG.out.walls.four
 obtain ⟨r0, r1⟩ := hG.out.place.two
 have g1 := hG.out.way.frozen
 have g2 := hG.out.place.frozen
 go_upto_region 11 with (go_at_call 73; ((with_reducible refine (rback_c _ hu _).mono ?_); rintro e w' ⟨rfl, rfl⟩))
 go_upto_region 19 with (go_at_call 73; ((with_reducible refine (rback_c _ hv _).mono ?_); rintro e w' ⟨rfl, rfl⟩))
 have hI := hid ((hG.out.py b).wy (backI v))
 generalize (Z.setCell ⟨B, 1, none⟩ (.int .i32 b)).setCell ⟨w.heap.size + 1, 1, none⟩ (.int .i32 (backI v)) = Z3 at hI ⊢
 clear q0 q1 b0 b1 b2 b3 r0 r1 g1 g2 hG
 obtain ⟨q0, q1⟩ := hI.out.way.two
 obtain ⟨b0, b1, b2, b3⟩ := hI.out.walls.four
 obtain ⟨r0, r1⟩ := hI.out.place.two
 have g1 := hI.out.way.frozen
 have g2 := hI.out.place.frozen
 have hJ := hid (hI.out.fin)
 have n1 : w.heap.size + 1 + 1 + 1 ≠ B := by omega
 have n2 : w.heap.size + 1 + 1 + 1 + 1 ≠ B := by omega
 have n3 : w.heap.size + 1 + 1 ≠ w.heap.size := by omega
 have n4 : w.heap.size + 1 + 1 + 1 ≠ w.heap.size := by omega
 obtain ⟨c0, c1⟩ := hI.out.one.two
 obtain ⟨d0, d1⟩ := hI.out.two.two
 have g3 := hI.out.one.frozen
 have g4 := hI.out.two.frozen
 go_region_held3 (fun W => W.cell? ⟨B, 0, none⟩ = some (.int .i32 (satI (p + u))) ∧ W.cell? ⟨B, 1, none⟩ = some (.int .i32 b) ∧ W.cell? ⟨w.heap.size + 1, 0, none⟩ = some (.int .i32 u) ∧ W.cell? ⟨w.heap.size + 1, 1, none⟩ = some (.int .i32 (backI v))) (go_keep) (fail)
 go_wp2_with fail
 refine bodyPost_ret (results_rmove rfl _ _ (w.heap.size + 1 + 1 + 1) (w.heap.size + 1 + 1 + 1 + 1) rfl rfl _ _ _ _ hJ.out.1.drew hJ.out.2.1.drew) rfl ?_
 exact ⟨rfl, bd1 hJ.out.2.2⟩

set_option maxRecDepth 100000 in
theorem rmove_32 (p q u v a b c d : Int) (hp : In32 p) (hq : In32 q) (hu : In32 u) (hv : In32 v) (w : World) (k1 : ¬ satI (p + u) < a) (k2 : ¬ c < satI (p + u)) (m1 : ¬ satI (q + v) < b) (m2 : d < satI (q + v)) :
 Calls Tryz.prog 42 #[vec p q, vec u v, box a b c d] w fun e w' => e = .returned (.tuple #[vec (mvP p u a c) (mvP q v b d), vec (mvV p u a c) (mvV q v b d), .int .i64 (wallI p q u v a b c d)]) ∧ Below w.heap.size w w' := by
 have hF := hid (five_new w p q u v a b c d)
 obtain ⟨e1, e2, e3⟩ := mv_3 p u a c k1 k2
 obtain ⟨x1, x2, x3⟩ := mv_2 q v b d m1 m2
 unfold wallI
 rw [e1, e2, e3, x1, x2, x3]
 clear e1 e2 e3 x1 x2 x3
 go_enter Tryz.func42, Tryz.ntmps42
 go_upto_region 3 with (go_at_call 39; ((with_reducible refine (rplus_c _ _ _ _ hp hq hu hv _).mono ?_); rintro e y ⟨rfl, hy⟩; have hG := hid (Six.new (hF.out.below hy) (satI (p + u)) (satI (q + v))); clear hy))
 generalize y.alloc (.cells #[.int .i32 (satI (p + u)), .int .i32 (satI (q + v))] 27) = Z at hG ⊢
 generalize y.heap.size = B at hG ⊢
 have hfar := hG.out.far
 obtain ⟨q0, q1⟩ := hG.out.way.two
 obtain ⟨b0, b1, b2, b3⟩ := hG.out.walls.four
 obtain ⟨r0, r1⟩ := hG.out.place.two
 have g1 := hG.out.way.frozen
 have g2 := hG.out.place.frozen
 go_upto_region 11 with (go_at_call 73; ((with_reducible refine (rback_c _ hu _).mono ?_); rintro e w' ⟨rfl, rfl⟩))
 go_upto_region 19 with (go_at_call 73; ((with_reducible refine (rback_c _ hv _).mono ?_); rintro e w' ⟨rfl, rfl⟩))
 have hI := hid ((hG.out.py d).wy (backI v))
 generalize (Z.setCell ⟨B, 1, none⟩ (.int .i32 d)).setCell ⟨w.heap.size + 1, 1, none⟩ (.int .i32 (backI v)) = Z3 at hI ⊢
 clear q0 q1 b0 b1 b2 b3 r0 r1 g1 g2 hG
 obtain ⟨q0, q1⟩ := hI.out.way.two
 obtain ⟨b0, b1, b2, b3⟩ := hI.out.walls.four
 obtain ⟨r0, r1⟩ := hI.out.place.two
 have g1 := hI.out.way.frozen
 have g2 := hI.out.place.frozen
 have hJ := hid (hI.out.fin)
 have n1 : w.heap.size + 1 + 1 + 1 ≠ B := by omega
 have n2 : w.heap.size + 1 + 1 + 1 + 1 ≠ B := by omega
 have n3 : w.heap.size + 1 + 1 ≠ w.heap.size := by omega
 have n4 : w.heap.size + 1 + 1 + 1 ≠ w.heap.size := by omega
 obtain ⟨c0, c1⟩ := hI.out.one.two
 obtain ⟨d0, d1⟩ := hI.out.two.two
 have g3 := hI.out.one.frozen
 have g4 := hI.out.two.frozen
 go_region_held3 (fun W => W.cell? ⟨B, 0, none⟩ = some (.int .i32 (satI (p + u))) ∧ W.cell? ⟨B, 1, none⟩ = some (.int .i32 d) ∧ W.cell? ⟨w.heap.size + 1, 0, none⟩ = some (.int .i32 u) ∧ W.cell? ⟨w.heap.size + 1, 1, none⟩ = some (.int .i32 (backI v))) (go_keep) (fail)
 go_wp2_with fail
 refine bodyPost_ret (results_rmove rfl _ _ (w.heap.size + 1 + 1 + 1) (w.heap.size + 1 + 1 + 1 + 1) rfl rfl _ _ _ _ hJ.out.1.drew hJ.out.2.1.drew) rfl ?_
 exact ⟨rfl, bd1 hJ.out.2.2⟩

set_option maxRecDepth 100000 in
theorem rmove_33 (p q u v a b c d : Int) (hp : In32 p) (hq : In32 q) (hu : In32 u) (hv : In32 v) (w : World) (k1 : ¬ satI (p + u) < a) (k2 : ¬ c < satI (p + u)) (m1 : ¬ satI (q + v) < b) (m2 : ¬ d < satI (q + v)) :
 Calls Tryz.prog 42 #[vec p q, vec u v, box a b c d] w fun e w' => e = .returned (.tuple #[vec (mvP p u a c) (mvP q v b d), vec (mvV p u a c) (mvV q v b d), .int .i64 (wallI p q u v a b c d)]) ∧ Below w.heap.size w w' := by
 have hF := hid (five_new w p q u v a b c d)
 obtain ⟨e1, e2, e3⟩ := mv_3 p u a c k1 k2
 obtain ⟨x1, x2, x3⟩ := mv_3 q v b d m1 m2
 unfold wallI
 rw [e1, e2, e3, x1, x2, x3]
 clear e1 e2 e3 x1 x2 x3
 go_enter Tryz.func42, Tryz.ntmps42
 go_upto_region 3 with (go_at_call 39; ((with_reducible refine (rplus_c _ _ _ _ hp hq hu hv _).mono ?_); rintro e y ⟨rfl, hy⟩; have hG := hid (Six.new (hF.out.below hy) (satI (p + u)) (satI (q + v))); clear hy))
 generalize y.alloc (.cells #[.int .i32 (satI (p + u)), .int .i32 (satI (q + v))] 27) = Z at hG ⊢
 generalize y.heap.size = B at hG ⊢
 have hfar := hG.out.far
 obtain ⟨q0, q1⟩ := hG.out.way.two
 obtain ⟨b0, b1, b2, b3⟩ := hG.out.walls.four
 obtain ⟨r0, r1⟩ := hG.out.place.two
 have g1 := hG.out.way.frozen
 have g2 := hG.out.place.frozen
 go_upto_region 11 with (go_at_call 73; ((with_reducible refine (rback_c _ hu _).mono ?_); rintro e w' ⟨rfl, rfl⟩))
 go_upto_region 19 with (go_at_call 73; ((with_reducible refine (rback_c _ hv _).mono ?_); rintro e w' ⟨rfl, rfl⟩))
 have hJ := hid (hG.out.fin)
 have n1 : w.heap.size + 1 + 1 + 1 ≠ B := by omega
 have n2 : w.heap.size + 1 + 1 + 1 + 1 ≠ B := by omega
 have n3 : w.heap.size + 1 + 1 ≠ w.heap.size := by omega
 have n4 : w.heap.size + 1 + 1 + 1 ≠ w.heap.size := by omega
 obtain ⟨c0, c1⟩ := hG.out.one.two
 obtain ⟨d0, d1⟩ := hG.out.two.two
 have g3 := hG.out.one.frozen
 have g4 := hG.out.two.frozen
 go_region_held3 (fun W => W.cell? ⟨B, 0, none⟩ = some (.int .i32 (satI (p + u))) ∧ W.cell? ⟨B, 1, none⟩ = some (.int .i32 (satI (q + v))) ∧ W.cell? ⟨w.heap.size + 1, 0, none⟩ = some (.int .i32 u) ∧ W.cell? ⟨w.heap.size + 1, 1, none⟩ = some (.int .i32 v)) (go_keep) (fail)
 go_wp2_with fail
 refine bodyPost_ret (results_rmove rfl _ _ (w.heap.size + 1 + 1 + 1) (w.heap.size + 1 + 1 + 1 + 1) rfl rfl _ _ _ _ hJ.out.1.drew hJ.out.2.1.drew) rfl ?_
 exact ⟨rfl, bd1 hJ.out.2.2⟩

theorem rmove_c (p q u v a b c d : Int) (hp : In32 p) (hq : In32 q) (hu : In32 u) (hv : In32 v) (w : World) :
 Calls Tryz.prog 42 #[vec p q, vec u v, box a b c d] w fun e w' => e = .returned (.tuple #[vec (mvP p u a c) (mvP q v b d), vec (mvV p u a c) (mvV q v b d), .int .i64 (wallI p q u v a b c d)]) ∧ Below w.heap.size w w' := by
 by_cases k1 : satI (p + u) < a
 · by_cases m1 : satI (q + v) < b
   · exact rmove_11 p q u v a b c d hp hq hu hv w k1 m1
   · by_cases m2 : d < satI (q + v)
     · exact rmove_12 p q u v a b c d hp hq hu hv w k1 m1 m2
     · exact rmove_13 p q u v a b c d hp hq hu hv w k1 m1 m2
 · by_cases k2 : c < satI (p + u)
   · by_cases m1 : satI (q + v) < b
     · exact rmove_21 p q u v a b c d hp hq hu hv w k1 k2 m1
     · by_cases m2 : d < satI (q + v)
       · exact rmove_22 p q u v a b c d hp hq hu hv w k1 k2 m1 m2
       · exact rmove_23 p q u v a b c d hp hq hu hv w k1 k2 m1 m2
   · by_cases m1 : satI (q + v) < b
     · exact rmove_31 p q u v a b c d hp hq hu hv w k1 k2 m1
     · by_cases m2 : d < satI (q + v)
       · exact rmove_32 p q u v a b c d hp hq hu hv w k1 k2 m1 m2
       · exact rmove_33 p q u v a b c d hp hq hu hv w k1 k2 m1 m2

end Go.Proofs.YtigjflacinlafaaGreatDoor.Sh
