/- What adding, taking off and scaling places and ways, and asking boxes, return (layer 10, shape, and its document's answers). -/
import Derived.Test.YtfclnhmijjlhdaaGreatDoorJ0
import Derived.Deep.RegionHeld3
import Derived.Handy
namespace Go.Proofs.YtfclnhmijjlhdaaGreatDoor.Sh
open Go.RowKit Go.Proofs.YtfclnhmijjlhdaaGreatDoor.Fx Go.Proofs.YtfclnhmijjlhdaaGreatDoor.Tg
set_option linter.unusedVariables false

/-- a place, or a way. -/
abbrev vec (x y : Int) : Value := .agg #[.int .i32 x, .int .i32 y]
/-- a box. -/
abbrev box (a b c d : Int) : Value := .agg #[.int .i32 a, .int .i32 b, .int .i32 c, .int .i32 d]
/-- a number of 32 bits. -/
abbrev In32 (x : Int) : Prop := -2147483648 ≤ x ∧ x ≤ 2147483647

theorem bal {w W : World} (h : Below w.heap.size w W) (o : Obj) : Below w.heap.size w (W.alloc o) := h.alloc h.size o
theorem bd1 {w W : World} (h : Below w.heap.size w W) : Below w.heap.size w W.drew := ⟨h.os, h.tape, h.output, h.size, h.block⟩
theorem bt {a b c : World} (h : Below a.heap.size a b) (k : Below b.heap.size b c) : Below a.heap.size a c := h.trans (k.mono h.size)
theorem br (w : World) : Below w.heap.size w w := Below.refl _ w

theorem radd_c (a b : Int) (ha : In32 a) (hb : In32 b) (w : World) :
 Calls Tryz.prog 200 #[.int .i32 a, .int .i32 b] w fun e w' => e = .returned (.int .i32 (satI (a + b))) ∧ w = w' := by
 go_enter Tryz.func200, Tryz.ntmps200
 go_wp2_with (go_at_call 230; ((with_reducible refine (rsat_c _ _).mono ?_); rintro e w' ⟨rfl, rfl⟩))
 go_ret
 exact ⟨rfl, rfl⟩

theorem rsub_c (a b : Int) (ha : In32 a) (hb : In32 b) (w : World) :
 Calls Tryz.prog 229 #[.int .i32 a, .int .i32 b] w fun e w' => e = .returned (.int .i32 (satI (a - b))) ∧ w = w' := by
 go_enter Tryz.func229, Tryz.ntmps229
 go_wp2_with (go_at_call 230; ((with_reducible refine (rsat_c _ _).mono ?_); rintro e w' ⟨rfl, rfl⟩))
 go_ret
 exact ⟨rfl, rfl⟩

set_option maxRecDepth 100000 in
theorem vadd_c (a b c d : Int) (ha : In32 a) (hb : In32 b) (hc : In32 c) (hd : In32 d) (w : World) :
 Calls Tryz.prog 109 #[vec a b, vec c d] w fun e w' => e = .returned (vec (satI (a + c)) (satI (b + d))) ∧ Below w.heap.size w w' := by
 go_enter Tryz.func109, Tryz.ntmps109
 go_wp2_with fail
 go_region_held3 (fun W => W.cell? ⟨w.heap.size, 0, none⟩ = some (.int .i32 a) ∧ W.cell? ⟨w.heap.size, 1, none⟩ = some (.int .i32 b) ∧ W.cell? ⟨w.heap.size + 1, 0, none⟩ = some (.int .i32 c) ∧ W.cell? ⟨w.heap.size + 1, 1, none⟩ = some (.int .i32 d)) (go_keep)
  (first
  | (go_at_call 147; ((with_reducible refine (add_c _ _ ha hc _).mono ?_); rintro e w' ⟨rfl, rfl⟩))
  | (go_at_call 147; ((with_reducible refine (add_c _ _ hb hd _).mono ?_); rintro e w' ⟨rfl, rfl⟩)))
 go_wp2_with fail
 go_returns
 exact ⟨rfl, bd1 (bal (bal (bal (br _) _) _) _)⟩

set_option maxRecDepth 100000 in
theorem vsub_c (a b c d : Int) (ha : In32 a) (hb : In32 b) (hc : In32 c) (hd : In32 d) (w : World) :
 Calls Tryz.prog 145 #[vec a b, vec c d] w fun e w' => e = .returned (vec (satI (a - c)) (satI (b - d))) ∧ Below w.heap.size w w' := by
 go_enter Tryz.func145, Tryz.ntmps145
 go_wp2_with fail
 go_region_held3 (fun W => W.cell? ⟨w.heap.size, 0, none⟩ = some (.int .i32 a) ∧ W.cell? ⟨w.heap.size, 1, none⟩ = some (.int .i32 b) ∧ W.cell? ⟨w.heap.size + 1, 0, none⟩ = some (.int .i32 c) ∧ W.cell? ⟨w.heap.size + 1, 1, none⟩ = some (.int .i32 d)) (go_keep)
  (first
  | (go_at_call 175; ((with_reducible refine (sub_c _ _ ha hc _).mono ?_); rintro e w' ⟨rfl, rfl⟩))
  | (go_at_call 175; ((with_reducible refine (sub_c _ _ hb hd _).mono ?_); rintro e w' ⟨rfl, rfl⟩)))
 go_wp2_with fail
 go_returns
 exact ⟨rfl, bd1 (bal (bal (bal (br _) _) _) _)⟩

set_option maxRecDepth 100000 in
theorem rplus_c (a b c d : Int) (ha : In32 a) (hb : In32 b) (hc : In32 c) (hd : In32 d) (w : World) :
 Calls Tryz.prog 194 #[vec a b, vec c d] w fun e w' => e = .returned (vec (satI (a + c)) (satI (b + d))) ∧ Below w.heap.size w w' := by
 go_enter Tryz.func194, Tryz.ntmps194
 go_wp2_with fail
 go_region_held3 (fun W => W.cell? ⟨w.heap.size, 0, none⟩ = some (.int .i32 a) ∧ W.cell? ⟨w.heap.size, 1, none⟩ = some (.int .i32 b) ∧ W.cell? ⟨w.heap.size + 1, 0, none⟩ = some (.int .i32 c) ∧ W.cell? ⟨w.heap.size + 1, 1, none⟩ = some (.int .i32 d)) (go_keep)
  (first
  | (go_at_call 200; ((with_reducible refine (radd_c _ _ ha hc _).mono ?_); rintro e w' ⟨rfl, rfl⟩))
  | (go_at_call 200; ((with_reducible refine (radd_c _ _ hb hd _).mono ?_); rintro e w' ⟨rfl, rfl⟩)))
 go_wp2_with fail
 go_returns
 exact ⟨rfl, bd1 (bal (bal (bal (br _) _) _) _)⟩

set_option maxRecDepth 100000 in
theorem rless_c (a b c d : Int) (ha : In32 a) (hb : In32 b) (hc : In32 c) (hd : In32 d) (w : World) :
 Calls Tryz.prog 199 #[vec a b, vec c d] w fun e w' => e = .returned (vec (satI (a - c)) (satI (b - d))) ∧ Below w.heap.size w w' := by
 go_enter Tryz.func199, Tryz.ntmps199
 go_wp2_with fail
 go_region_held3 (fun W => W.cell? ⟨w.heap.size, 0, none⟩ = some (.int .i32 a) ∧ W.cell? ⟨w.heap.size, 1, none⟩ = some (.int .i32 b) ∧ W.cell? ⟨w.heap.size + 1, 0, none⟩ = some (.int .i32 c) ∧ W.cell? ⟨w.heap.size + 1, 1, none⟩ = some (.int .i32 d)) (go_keep)
  (first
  | (go_at_call 229; ((with_reducible refine (rsub_c _ _ ha hc _).mono ?_); rintro e w' ⟨rfl, rfl⟩))
  | (go_at_call 229; ((with_reducible refine (rsub_c _ _ hb hd _).mono ?_); rintro e w' ⟨rfl, rfl⟩)))
 go_wp2_with fail
 go_returns
 exact ⟨rfl, bd1 (bal (bal (bal (br _) _) _) _)⟩

set_option maxRecDepth 100000 in
theorem vscale_c (a b c : Int) (ha : In32 a) (hb : In32 b) (hc : In32 c) (w : World) :
 Calls Tryz.prog 142 #[vec a b, .int .i32 c] w fun e w' => e = .returned (vec (satI (a * c / 65536)) (satI (b * c / 65536))) ∧ Below w.heap.size w w' := by
 go_enter Tryz.func142, Tryz.ntmps142
 go_wp2_with fail
 go_region_held3 (fun W => W.cell? ⟨w.heap.size, 0, none⟩ = some (.int .i32 a) ∧ W.cell? ⟨w.heap.size, 1, none⟩ = some (.int .i32 b)) (go_keep)
  (first
  | (go_at_call 170; ((with_reducible refine (mul_c _ _ ha hc _).mono ?_); rintro e w' ⟨rfl, rfl⟩))
  | (go_at_call 170; ((with_reducible refine (mul_c _ _ hb hc _).mono ?_); rintro e w' ⟨rfl, rfl⟩)))
 go_wp2_with fail
 go_returns
 exact ⟨rfl, bd1 (bal (bal (br _) _) _)⟩

set_option maxRecDepth 100000 in
theorem rscale_c (a b c : Int) (ha : In32 a) (hb : In32 b) (hc : In32 c) (w : World) :
 Calls Tryz.prog 193 #[vec a b, .int .i32 c] w fun e w' => e = .returned (vec (satI (a * c / 65536)) (satI (b * c / 65536))) ∧ Below w.heap.size w w' := by
 go_enter Tryz.func193, Tryz.ntmps193
 go_wp2_with fail
 go_region_held3 (fun W => W.cell? ⟨w.heap.size, 0, none⟩ = some (.int .i32 a) ∧ W.cell? ⟨w.heap.size, 1, none⟩ = some (.int .i32 b)) (go_keep)
  (first
  | (go_at_call 224; ((with_reducible refine (rmul_c _ _ ha hc _).mono ?_); rintro e w' ⟨rfl, rfl⟩))
  | (go_at_call 224; ((with_reducible refine (rmul_c _ _ hb hc _).mono ?_); rintro e w' ⟨rfl, rfl⟩)))
 go_wp2_with fail
 go_returns
 exact ⟨rfl, bd1 (bal (bal (br _) _) _)⟩

/-- is it a box? -/
def rightB (a b c d : Int) : Bool := decide (a ≤ c) && decide (b ≤ d)
theorem right_yes (a b c d : Int) (h : a ≤ c) (k : b ≤ d) : rightB a b c d = true := by simp [rightB, h, k]
theorem right_no (a b c d : Int) (h : ¬ (a ≤ c ∧ b ≤ d)) : rightB a b c d = false := by
 rw [Bool.eq_false_iff]; intro k; simp [rightB] at k; exact h k
/-- is a place in it? -/
def insideB (a b c d x y : Int) : Bool := decide (a ≤ x ∧ x ≤ c ∧ b ≤ y ∧ y ≤ d)

set_option maxRecDepth 100000 in
theorem right_c (a b c d : Int) (w : World) :
 Calls Tryz.prog 171 #[box a b c d] w fun e w' => e = .returned (.bool (rightB a b c d)) ∧ Below w.heap.size w w' := by
 by_cases h1 : a ≤ c
 · by_cases h2 : b ≤ d
   · rw [right_yes a b c d h1 h2]
     go_enter Tryz.func171, Tryz.ntmps171
     go_wp2_with fail
     go_ret
     exact ⟨rfl, bal (br _) _⟩
   · rw [right_no a b c d (by omega)]
     go_enter Tryz.func171, Tryz.ntmps171
     go_wp2_with fail
     go_ret
     exact ⟨rfl, bal (br _) _⟩
 · rw [right_no a b c d (by omega)]
   go_enter Tryz.func171, Tryz.ntmps171
   go_wp2_with fail
   go_ret
   exact ⟨rfl, bal (br _) _⟩

set_option maxRecDepth 100000 in
theorem inside_c (a b c d x y : Int) (w : World) :
 Calls Tryz.prog 110 #[box a b c d, vec x y] w fun e w' => e = .returned (.bool (insideB a b c d x y)) ∧ Below w.heap.size w w' := by
 by_cases h0 : a ≤ x
 case neg =>
  rw [show insideB a b c d x y = false by simp only [insideB, decide_eq_false_iff_not]; omega]
  go_enter Tryz.func110, Tryz.ntmps110
  go_wp2_with fail
  go_ret
  exact ⟨rfl, bal (bal (br _) _) _⟩
 by_cases h1 : x ≤ c
 case neg =>
  rw [show insideB a b c d x y = false by simp only [insideB, decide_eq_false_iff_not]; omega]
  go_enter Tryz.func110, Tryz.ntmps110
  go_wp2_with fail
  go_ret
  exact ⟨rfl, bal (bal (br _) _) _⟩
 by_cases h2 : b ≤ y
 case neg =>
  rw [show insideB a b c d x y = false by simp only [insideB, decide_eq_false_iff_not]; omega]
  go_enter Tryz.func110, Tryz.ntmps110
  go_wp2_with fail
  go_ret
  exact ⟨rfl, bal (bal (br _) _) _⟩
 by_cases h3 : y ≤ d
 case neg =>
  rw [show insideB a b c d x y = false by simp only [insideB, decide_eq_false_iff_not]; omega]
  go_enter Tryz.func110, Tryz.ntmps110
  go_wp2_with fail
  go_ret
  exact ⟨rfl, bal (bal (br _) _) _⟩
 rw [show insideB a b c d x y = true by simp only [insideB, decide_eq_true_eq]; omega]
 go_enter Tryz.func110, Tryz.ntmps110
 go_wp2_with fail
 go_ret
 exact ⟨rfl, bal (bal (br _) _) _⟩

set_option maxRecDepth 100000 in
theorem rinside_c (a b c d x y : Int) (w : World) :
 Calls Tryz.prog 205 #[box a b c d, vec x y] w fun e w' => e = .returned (.bool (insideB a b c d x y)) ∧ Below w.heap.size w w' := by
 by_cases h0 : a ≤ x
 case neg =>
  rw [show insideB a b c d x y = false by simp only [insideB, decide_eq_false_iff_not]; omega]
  go_enter Tryz.func205, Tryz.ntmps205
  go_wp2_with fail
  go_ret
  exact ⟨rfl, bal (bal (br _) _) _⟩
 by_cases h1 : x ≤ c
 case neg =>
  rw [show insideB a b c d x y = false by simp only [insideB, decide_eq_false_iff_not]; omega]
  go_enter Tryz.func205, Tryz.ntmps205
  go_wp2_with fail
  go_ret
  exact ⟨rfl, bal (bal (br _) _) _⟩
 by_cases h2 : b ≤ y
 case neg =>
  rw [show insideB a b c d x y = false by simp only [insideB, decide_eq_false_iff_not]; omega]
  go_enter Tryz.func205, Tryz.ntmps205
  go_wp2_with fail
  go_ret
  exact ⟨rfl, bal (bal (br _) _) _⟩
 by_cases h3 : y ≤ d
 case neg =>
  rw [show insideB a b c d x y = false by simp only [insideB, decide_eq_false_iff_not]; omega]
  go_enter Tryz.func205, Tryz.ntmps205
  go_wp2_with fail
  go_ret
  exact ⟨rfl, bal (bal (br _) _) _⟩
 rw [show insideB a b c d x y = true by simp only [insideB, decide_eq_true_eq]; omega]
 go_enter Tryz.func205, Tryz.ntmps205
 go_wp2_with fail
 go_ret
 exact ⟨ret_bool (by simp; omega), bal (bal (br _) _) _⟩

/-- a way turned round, and halved. -/
def backI (v : Int) : Int := satI (satI (-v) * 32768 / 65536)
theorem back_bd (v : Int) : In32 (backI v) := sat_bd _

theorem bounce_c (v : Int) (hv : In32 v) (w : World) :
 Calls Tryz.prog 210 #[.int .i32 v] w fun e w' => e = .returned (.int .i32 (backI v)) ∧ w = w' := by
 have hs := sat_bd (-v)
 unfold backI
 go_enter Tryz.func210, Tryz.ntmps210
 go_wp2_with (first
  | (go_at_call 235; ((with_reducible refine (neg_c _ hv _).mono ?_); rintro e w' ⟨rfl, rfl⟩))
  | (go_at_call 170; ((with_reducible refine (mul_c _ _ hs (by omega) _).mono ?_); rintro e w' ⟨rfl, rfl⟩)))
 go_ret
 exact ⟨rfl, rfl⟩

theorem rback_c (v : Int) (hv : In32 v) (w : World) :
 Calls Tryz.prog 228 #[.int .i32 v] w fun e w' => e = .returned (.int .i32 (backI v)) ∧ w = w' := by
 have hs := sat_bd (-v)
 unfold backI
 go_enter Tryz.func228, Tryz.ntmps228
 go_wp2_with (first
  | (go_at_call 230; ((with_reducible refine (rsat_c _ _).mono ?_); rintro e w' ⟨rfl, rfl⟩))
  | (go_at_call 224; ((with_reducible refine (rmul_c _ _ hs (by omega) _).mono ?_); rintro e w' ⟨rfl, rfl⟩)))
 go_ret
 exact ⟨rfl, rfl⟩

/-- a place moved by a way between two walls: where it is, its way, the wall met. -/
def mvP (p v l h : Int) : Int := if satI (p + v) < l then l else if h < satI (p + v) then h else satI (p + v)
def mvV (p v l h : Int) : Int := if satI (p + v) < l then backI v else if h < satI (p + v) then backI v else v
def mvW (p v l h a b : Int) : Int := if satI (p + v) < l then a else if h < satI (p + v) then b else 0
theorem mv_1 (p v l h : Int) (k : satI (p + v) < l) : mvP p v l h = l ∧ mvV p v l h = backI v ∧ ∀ a b, mvW p v l h a b = a := by simp [mvP, mvV, mvW, k]
theorem mv_2 (p v l h : Int) (k : ¬ satI (p + v) < l) (k' : h < satI (p + v)) : mvP p v l h = h ∧ mvV p v l h = backI v ∧ ∀ a b, mvW p v l h a b = b := by simp only [mvP, mvV, mvW, k, k', if_true, if_false]; simp
theorem mv_3 (p v l h : Int) (k : ¬ satI (p + v) < l) (k' : ¬ h < satI (p + v)) : mvP p v l h = satI (p + v) ∧ mvV p v l h = v ∧ ∀ a b, mvW p v l h a b = 0 := by simp only [mvP, mvV, mvW, k, k', if_false]; simp

theorem between_c (p v l h a b : Int) (hp : In32 p) (hv : In32 v) (hl : In32 l) (hh : In32 h) (w : World) :
 Calls Tryz.prog 172 #[.int .i32 p, .int .i32 v, .int .i32 l, .int .i32 h, .int .i64 a, .int .i64 b] w fun e w' => e = .returned (.tuple #[.int .i32 (mvP p v l h), .int .i32 (mvV p v l h), .int .i64 (mvW p v l h a b)]) ∧ w = w' := by
 by_cases k : satI (p + v) < l
 · obtain ⟨e1, e2, e3⟩ := mv_1 p v l h k
   rw [e1, e2, e3]
   clear e1 e2 e3
   go_enter Tryz.func172, Tryz.ntmps172
   go_wp2_with (first
    | (go_at_call 147; ((with_reducible refine (add_c _ _ hp hv _).mono ?_); rintro e w' ⟨rfl, rfl⟩))
    | (go_at_call 210; ((with_reducible refine (bounce_c _ hv _).mono ?_); rintro e w' ⟨rfl, rfl⟩)))
   go_returns
   exact ⟨rfl, rfl⟩
 · by_cases k' : h < satI (p + v)
   · obtain ⟨e1, e2, e3⟩ := mv_2 p v l h k k'
     rw [e1, e2, e3]
     clear e1 e2 e3
     go_enter Tryz.func172, Tryz.ntmps172
     go_wp2_with (first
      | (go_at_call 147; ((with_reducible refine (add_c _ _ hp hv _).mono ?_); rintro e w' ⟨rfl, rfl⟩))
      | (go_at_call 210; ((with_reducible refine (bounce_c _ hv _).mono ?_); rintro e w' ⟨rfl, rfl⟩)))
     go_returns
     exact ⟨rfl, rfl⟩
   · obtain ⟨e1, e2, e3⟩ := mv_3 p v l h k k'
     rw [e1, e2, e3]
     clear e1 e2 e3
     go_enter Tryz.func172, Tryz.ntmps172
     go_wp2_with (first
      | (go_at_call 147; ((with_reducible refine (add_c _ _ hp hv _).mono ?_); rintro e w' ⟨rfl, rfl⟩))
      | (go_at_call 210; ((with_reducible refine (bounce_c _ hv _).mono ?_); rintro e w' ⟨rfl, rfl⟩)))
     go_returns
     exact ⟨rfl, rfl⟩

theorem step_c (x y s : Int) (hx : In32 x) (hy : In32 y) (hs : In32 s) (w : World) :
 Calls Tryz.prog 174 #[vec x y, .int .i32 s] w fun e w' => e = .returned (vec (stepI x (lenI x y) s) (stepI y (lenI x y) s)) ∧ Below w.heap.size w w' := by
 go_enter Tryz.func174, Tryz.ntmps174
 go_wp2_with (go_at_call 212; ((with_reducible refine (toward_c _ _ _ hx hy hs _).mono ?_); rintro e w' ⟨rfl, rfl⟩))
 go_returns
 exact ⟨rfl, bal (bal (br _) _) _⟩

end Go.Proofs.YtfclnhmijjlhdaaGreatDoor.Sh
