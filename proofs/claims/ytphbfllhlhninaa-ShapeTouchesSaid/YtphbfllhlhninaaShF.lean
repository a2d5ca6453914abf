/- The law ShapeTouches answers true (layer 10, shape). -/
import Derived.Test.YtphbfllhlhninaaShE
namespace Go.Proofs.Ytphbfllhlhninaa.Sh
open Go.RowKit Go.Proofs.Ytphbfllhlhninaa.Fx Go.Proofs.Ytphbfllhlhninaa.Tg
set_option linter.unusedVariables false

/-- two places in memory. -/
structure Duo (w W : World) (a b c d : Int) : Prop where
  one : At W w.heap.size #[.int .i32 a, .int .i32 b] 24
  two : At W (w.heap.size + 1) #[.int .i32 c, .int .i32 d] 24
  old : Below w.heap.size w W
theorem duo_new (w : World) (a b c d : Int) : Duo w ((w.alloc (.cells #[.int .i32 a, .int .i32 b] 24)).alloc (.cells #[.int .i32 c, .int .i32 d] 24)) a b c d := ⟨(At.new w _ _).more _, At.newAt _ _ _ _ (by simp), bal (bal (br w) _) _⟩
theorem Duo.below {w W W' : World} {a b c d : Int} (h : Duo w W a b c d) (hb : Below W.heap.size W W') : Duo w W' a b c d := ⟨h.one.below hb, h.two.below hb, bt h.old hb⟩
theorem Duo.cells {w W : World} {a b c d : Int} (h : Duo w W a b c d) : W.cell? ⟨w.heap.size, 0, none⟩ = some (.int .i32 a) ∧ W.cell? ⟨w.heap.size, 1, none⟩ = some (.int .i32 b) ∧ W.cell? ⟨w.heap.size + 1, 0, none⟩ = some (.int .i32 c) ∧ W.cell? ⟨w.heap.size + 1, 1, none⟩ = some (.int .i32 d) :=
  ⟨h.one.two.1, h.one.two.2, h.two.two.1, h.two.two.2⟩
theorem Duo.drew {w W : World} {a b c d : Int} (h : Duo w W a b c d) : Duo w W.drew a b c d := h.below (bd1 (br _))

set_option maxRecDepth 100000 in
set_option maxHeartbeats 1000000 in
theorem touches_w (a b c d r s v : Int) (ha : In32 a) (hb : In32 b) (hc : In32 c) (hd : In32 d) (hr : In32 r) (hs : In32 s) (hv : In32 v) (w : World) :
    Calls Try.prog 5 #[vec a b, vec c d, .int .i32 r, .int .i32 s, .int .i32 v] w fun e w' => e = .returned (.bool true) ∧ Below w.heap.size w w' := by
  have hF := hid (duo_new w a b c d)
  go_enter Try.func5, Try.ntmps5
  go_upto_region 3 with (go_at_call 7; ((with_reducible refine (awake_c _).mono ?_); rintro e y0 ⟨rfl, h0⟩; have hG := hid (hF.out.below h0); clear h0; have S0 := hG.out.cells))
  have S0' := hG.out.drew.cells
  have HD : ∀ W, Below y0.heap.size y0 W → Duo w W a b c d := fun W h => hG.out.below h
  have HD := hid HD
  go_region_held3 (fun W => W.cell? ⟨w.heap.size, 0, none⟩ = some (.int .i32 a) ∧ W.cell? ⟨w.heap.size, 1, none⟩ = some (.int .i32 b) ∧ W.cell? ⟨w.heap.size + 1, 0, none⟩ = some (.int .i32 c) ∧ W.cell? ⟨w.heap.size + 1, 1, none⟩ = some (.int .i32 d)) (first | with_reducible assumption | go_keep)
    (first
    | (go_at_call 21; ((with_reducible refine (touch_c _ _ _ _ _ _ ha hb hr hc hd hs _).mono ?_); rintro e y1 ⟨rfl, h1⟩; have B1 := hid (show Below y0.heap.size y0 y1 by first | exact h1 | exact bt (bd1 (br _)) h1); clear h1; have S1 := (HD.out _ B1.out).cells))
    | (go_at_call 22; ((with_reducible refine (rtouch_c _ _ _ _ _ _ ha hb hr hc hd hs _).mono ?_); rintro e y2 ⟨rfl, h2⟩; have B2 := hid (bt B1.out h2); clear h2; have S2 := (HD.out _ B2.out).cells))
    | (go_at_call 23; ((with_reducible refine (push_c _ _ _ _ _ ha hb hc hd hv _).mono ?_); rintro e y3 ⟨rfl, h3⟩; have B3 := hid (bt B2.out h3); clear h3; have S3 := (HD.out _ B3.out).cells))
    | (go_at_call 24; ((with_reducible refine (rpush_c _ _ _ _ _ ha hb hc hd hv _).mono ?_); rintro e y4 ⟨rfl, h4⟩; have B4 := hid (bt B3.out h4); clear h4; have S4 := (HD.out _ B4.out).cells))
    | (go_at_call 25; ((with_reducible refine (slow_c _ _ _ _ ha hb hv hr _).mono ?_); rintro e y5 ⟨rfl, h5⟩; have B5 := hid (bt B4.out h5); clear h5; have S5 := (HD.out _ B5.out).cells))
    | (go_at_call 26; ((with_reducible refine (rslow_c _ _ _ _ ha hb hv hr _).mono ?_); rintro e y6 ⟨rfl, h6⟩; have B6 := hid (bt B5.out h6); clear h6; have S6 := (HD.out _ B6.out).cells)))
  all_goals
    go_wp2_with fail
    go_ret
    exact ⟨rfl, bt hG.out.old B6.out⟩

end Go.Proofs.Ytphbfllhlhninaa.Sh
