/- The law ShapeMoves answers true (layer 10, shape). -/
import Derived.Test.YtphbfllhlhninaaShD
import Derived.Test.YtphbfllhlhninaaShE
namespace Go.Proofs.Ytphbfllhlhninaa.Sh
open Go.RowKit Go.Proofs.Ytphbfllhlhninaa.Fx Go.Proofs.Ytphbfllhlhninaa.Tg
set_option linter.unusedVariables false

theorem mv_in (p v l h : Int) (k : l ≤ h) : l ≤ mvP p v l h ∧ mvP p v l h ≤ h := by
  unfold mvP
  repeat' split
  all_goals omega
theorem right_bd (a b c d : Int) (h : rightB a b c d = true) : a ≤ c ∧ b ≤ d := by simpa [rightB] using h
theorem moved_in (p q u v a b c d : Int) (h : rightB a b c d = true) : insideB a b c d (mvP p u a c) (mvP q v b d) = true := by
  obtain ⟨h1, h2⟩ := right_bd a b c d h
  have k1 := mv_in p u a c h1
  have k2 := mv_in q v b d h2
  simp only [insideB, decide_eq_true_eq]
  omega

/-- the law's three arguments in memory. -/
structure Tri (w W : World) (p q u v a b c d : Int) : Prop where
  place : At W w.heap.size #[.int .i32 p, .int .i32 q] 24
  way : At W (w.heap.size + 1) #[.int .i32 u, .int .i32 v] 24
  walls : At W (w.heap.size + 1 + 1) #[.int .i32 a, .int .i32 b, .int .i32 c, .int .i32 d] 26
  old : Below w.heap.size w W
theorem tri_new (w : World) (p q u v a b c d : Int) : Tri w (((w.alloc (.cells #[.int .i32 p, .int .i32 q] 24)).alloc (.cells #[.int .i32 u, .int .i32 v] 24)).alloc (.cells #[.int .i32 a, .int .i32 b, .int .i32 c, .int .i32 d] 26)) p q u v a b c d :=
  ⟨((At.new w _ _).more _).more _, (At.newAt _ _ _ _ (by simp)).more _, At.newAt _ _ _ _ (by simp), bal (bal (bal (br w) _) _) _⟩
theorem Tri.below {w W W' : World} {p q u v a b c d : Int} (h : Tri w W p q u v a b c d) (hb : Below W.heap.size W W') : Tri w W' p q u v a b c d := ⟨h.place.below hb, h.way.below hb, h.walls.below hb, bt h.old hb⟩
theorem Tri.cells {w W : World} {p q u v a b c d : Int} (h : Tri w W p q u v a b c d) : W.cell? ⟨w.heap.size, 0, none⟩ = some (.int .i32 p) ∧ W.cell? ⟨w.heap.size, 1, none⟩ = some (.int .i32 q) ∧ W.cell? ⟨w.heap.size + 1, 0, none⟩ = some (.int .i32 u) ∧ W.cell? ⟨w.heap.size + 1, 1, none⟩ = some (.int .i32 v) ∧
    W.cell? ⟨w.heap.size + 1 + 1, 0, none⟩ = some (.int .i32 a) ∧ W.cell? ⟨w.heap.size + 1 + 1, 1, none⟩ = some (.int .i32 b) ∧ W.cell? ⟨w.heap.size + 1 + 1, 2, none⟩ = some (.int .i32 c) ∧ W.cell? ⟨w.heap.size + 1 + 1, 3, none⟩ = some (.int .i32 d) :=
  ⟨h.place.two.1, h.place.two.2, h.way.two.1, h.way.two.2, h.walls.four.1, h.walls.four.2.1, h.walls.four.2.2.1, h.walls.four.2.2.2⟩

set_option maxRecDepth 100000 in
set_option maxHeartbeats 1000000 in
theorem moves_w (p q u v a b c d : Int) (hp : In32 p) (hq : In32 q) (hu : In32 u) (hv : In32 v) (ha : In32 a) (hb : In32 b) (hc : In32 c) (hd : In32 d) (w : World) :
    Calls Try.prog 4 #[vec p q, vec u v, box a b c d] w fun e w' => e = .returned (.bool true) ∧ Below w.heap.size w w' := by
  have hF := hid (tri_new w p q u v a b c d)
  cases hr : rightB a b c d
  · go_enter Try.func4, Try.ntmps4
    go_upto_region 4 with (first
      | (go_at_call 7; ((with_reducible refine (awake_c _).mono ?_); rintro e y0 ⟨rfl, h0⟩; have hG := hid (hF.out.below h0); clear h0; obtain ⟨a0, a1, a2, a3, a4, a5, a6, a7⟩ := hG.out.cells))
      | (go_at_call 19; ((with_reducible refine (move_no _ _ _ _ _ _ _ _ hr _).mono ?_); rintro e y1 ⟨rfl, h1⟩; have hH := hid (hG.out.below (bal (bal h1 (.cells #[.int .i32 0, .int .i32 0] 24)) (.cells #[.int .i32 0, .int .i32 0] 24))); clear h1)))
    have hX := hid ((At.new y1 #[.int .i32 0, .int .i32 0] 24).more (.cells #[.int .i32 0, .int .i32 0] 24))
    have hY := hid (At.newAt (y1.alloc (.cells #[.int .i32 0, .int .i32 0] 24)) #[.int .i32 0, .int .i32 0] 24 (y1.heap.size + 1) (by simp))
    clear a0 a1 a2 a3 a4 a5 a6 a7
    generalize (y1.alloc (.cells #[.int .i32 0, .int .i32 0] 24)).alloc (.cells #[.int .i32 0, .int .i32 0] 24) = Z at hH hX hY ⊢
    obtain ⟨_, _, _, _, a4, a5, a6, a7⟩ := hH.out.cells
    go_wp2_with (go_at_call 11; ((with_reducible refine (rright_c _ _ _ _ _).mono ?_); rintro e y2 ⟨rfl, h2⟩; rw [hr]; have hI := hid (hH.out.below h2); have hX2 := hid (hX.out.below h2); have hY2 := hid (hY.out.below h2); clear h2; obtain ⟨x0, x1⟩ := hX2.out.two; obtain ⟨x2, x3⟩ := hY2.out.two))
    go_ret
    exact ⟨rfl, hI.out.old⟩
  · have hin := moved_in p q u v a b c d hr
    generalize hx1 : mvP p u a c = m1 at hin
    generalize hx2 : mvP q v b d = m2 at hin
    generalize hx3 : mvV p u a c = m3
    generalize hx4 : mvV q v b d = m4
    generalize hx5 : wallI p q u v a b c d = m5
    have HM := hid (fun W => move_ok p q u v a b c d hp hq hu hv ha hb hc hd hr W)
    have HR := hid (fun W => rmove_c p q u v a b c d hp hq hu hv W)
    rw [hx1, hx2, hx3, hx4, hx5] at HM HR
    clear hx1 hx2 hx3 hx4 hx5
    go_enter Try.func4, Try.ntmps4
    go_upto_region 4 with (first
      | (go_at_call 7; ((with_reducible refine (awake_c _).mono ?_); rintro e y0 ⟨rfl, h0⟩; have hG := hid (hF.out.below h0); clear h0; obtain ⟨a0, a1, a2, a3, a4, a5, a6, a7⟩ := hG.out.cells))
      | (go_at_call 19; ((with_reducible refine (HM.out _).mono ?_); rintro e y1 ⟨rfl, h1⟩; have hH := hid (hG.out.below (bal (bal h1 (.cells #[.int .i32 m1, .int .i32 m2] 24)) (.cells #[.int .i32 m3, .int .i32 m4] 24))); clear h1)))
    have hX := hid ((At.new y1 #[.int .i32 m1, .int .i32 m2] 24).more (.cells #[.int .i32 m3, .int .i32 m4] 24))
    have hY := hid (At.newAt (y1.alloc (.cells #[.int .i32 m1, .int .i32 m2] 24)) #[.int .i32 m3, .int .i32 m4] 24 (y1.heap.size + 1) (by simp))
    clear a0 a1 a2 a3 a4 a5 a6 a7
    generalize (y1.alloc (.cells #[.int .i32 m1, .int .i32 m2] 24)).alloc (.cells #[.int .i32 m3, .int .i32 m4] 24) = Z at hH hX hY ⊢
    obtain ⟨_, _, _, _, a4, a5, a6, a7⟩ := hH.out.cells
    go_upto_region 7 with (first
      | (go_at_call 11; ((with_reducible refine (rright_c _ _ _ _ _).mono ?_); rintro e y2 ⟨rfl, h2⟩; rw [hr]; have hI := hid (hH.out.below h2); have hX2 := hid (hX.out.below h2); have hY2 := hid (hY.out.below h2); clear h2; obtain ⟨b0, b1, b2, b3, b4, b5, b6, b7⟩ := hI.out.cells))
      | (go_at_call 20; ((with_reducible refine (HR.out _).mono ?_); rintro e y3 ⟨rfl, h3⟩; have hb3 := bal (bal h3 (.cells #[.int .i32 m1, .int .i32 m2] 24)) (.cells #[.int .i32 m3, .int .i32 m4] 24); have hJ := hid (hI.out.below hb3); have hX3 := hid (hX2.out.below hb3); have hY3 := hid (hY2.out.below hb3); clear h3 hb3)))
    have hU := hid ((At.new y3 #[.int .i32 m1, .int .i32 m2] 24).more (.cells #[.int .i32 m3, .int .i32 m4] 24))
    have hV := hid (At.newAt (y3.alloc (.cells #[.int .i32 m1, .int .i32 m2] 24)) #[.int .i32 m3, .int .i32 m4] 24 (y3.heap.size + 1) (by simp))
    clear b0 b1 b2 b3 b4 b5 b6 b7 a4 a5 a6 a7
    generalize (y3.alloc (.cells #[.int .i32 m1, .int .i32 m2] 24)).alloc (.cells #[.int .i32 m3, .int .i32 m4] 24) = Z2 at hJ hX3 hY3 hU hV ⊢
    obtain ⟨_, _, _, _, a4, a5, a6, a7⟩ := hJ.out.cells
    obtain ⟨x0, x1⟩ := hX3.out.two
    obtain ⟨x2, x3⟩ := hY3.out.two
    obtain ⟨x4, x5⟩ := hU.out.two
    obtain ⟨x6, x7⟩ := hV.out.two
    go_wp2_with (go_at_call 18; ((with_reducible refine (rinside_c _ _ _ _ _ _ _).mono ?_); rintro e y4 ⟨rfl, h4⟩; rw [hin]))
    go_ret
    exact ⟨rfl, bt hJ.out.old h4⟩

end Go.Proofs.Ytphbfllhlhninaa.Sh
