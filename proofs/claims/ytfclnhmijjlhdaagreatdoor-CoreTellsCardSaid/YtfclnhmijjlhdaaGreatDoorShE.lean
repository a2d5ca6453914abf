/- What Shrink, awake and within return (layer 10, shape, and its laws). -/
import Derived.Test.YtfclnhmijjlhdaaGreatDoorJ2
namespace Go.Proofs.YtfclnhmijjlhdaaGreatDoor.Sh
open Go.RowKit Go.Proofs.YtfclnhmijjlhdaaGreatDoor.Fx Go.Proofs.YtfclnhmijjlhdaaGreatDoor.Tg
set_option linter.unusedVariables false

/-- the memory of Shrink. -/
structure Shr (w W : World) (a b c d k : Int) : Prop where
 walls : At W w.heap.size #[.int .i32 a, .int .i32 b, .int .i32 c, .int .i32 d] 162
 res : At W (w.heap.size + 1) #[.int .i32 0, .int .i32 0, .int .i32 0, .int .i32 0] 162
 each : At W (w.heap.size + 1 + 1) #[.int .i32 k, .int .i32 k] 57
 old : Below w.heap.size w W
theorem shr_new (w : World) (a b c d k : Int) : Shr w (((w.alloc (.cells #[.int .i32 a, .int .i32 b, .int .i32 c, .int .i32 d] 162)).alloc (.cells #[.int .i32 0, .int .i32 0, .int .i32 0, .int .i32 0] 162)).alloc (.cells #[.int .i32 k, .int .i32 k] 57)) a b c d k :=
 ⟨((At.new w _ _).more _).more _, (At.newAt _ _ _ _ (by simp)).more _, At.newAt _ _ _ _ (by simp), bal (bal (bal (br w) _) _) _⟩
theorem Shr.below {w W W' : World} {a b c d k : Int} (h : Shr w W a b c d k) (hb : Below W.heap.size W W') : Shr w W' a b c d k := ⟨h.walls.below hb, h.res.below hb, h.each.below hb, bt h.old hb⟩
theorem Shr.cells {w W : World} {a b c d k : Int} (h : Shr w W a b c d k) : W.cell? ⟨w.heap.size, 0, none⟩ = some (.int .i32 a) ∧ W.cell? ⟨w.heap.size, 1, none⟩ = some (.int .i32 b) ∧ W.cell? ⟨w.heap.size, 2, none⟩ = some (.int .i32 c) ∧ W.cell? ⟨w.heap.size, 3, none⟩ = some (.int .i32 d) ∧ W.cell? ⟨w.heap.size + 1 + 1, 0, none⟩ = some (.int .i32 k) ∧ W.cell? ⟨w.heap.size + 1 + 1, 1, none⟩ = some (.int .i32 k) :=
 ⟨h.walls.four.1, h.walls.four.2.1, h.walls.four.2.2.1, h.walls.four.2.2.2, h.each.two.1, h.each.two.2⟩

theorem At.put4 {w : World} {b : Nat} {x0 x1 x2 x3 : Value} {T : TypeId} (h : At w b #[x0, x1, x2, x3] T) (v0 v1 v2 v3 : Value) : At ((((w.setCell ⟨b, 0, none⟩ v0).setCell ⟨b, 1, none⟩ v1).setCell ⟨b, 2, none⟩ v2).setCell ⟨b, 3, none⟩ v3) b #[v0, v1, v2, v3] T := by
 have h0 : At (w.setCell ⟨b, 0, none⟩ v0) b #[v0, x1, x2, x3] T := heap_setCell_same w b 0 _ _ v0 h
 have h1 : At ((w.setCell ⟨b, 0, none⟩ v0).setCell ⟨b, 1, none⟩ v1) b #[v0, v1, x2, x3] T := heap_setCell_same _ b 1 _ _ v1 h0
 have h2 : At (((w.setCell ⟨b, 0, none⟩ v0).setCell ⟨b, 1, none⟩ v1).setCell ⟨b, 2, none⟩ v2) b #[v0, v1, v2, x3] T := heap_setCell_same _ b 2 _ _ v2 h1
 exact heap_setCell_same _ b 3 _ _ v3 h2
theorem At.far4 {w : World} {b c : Nat} {cs : Array Value} {T : TypeId} (h : At w b cs T) (hn : b ≠ c) (v0 v1 v2 v3 : Value) : At ((((w.setCell ⟨c, 0, none⟩ v0).setCell ⟨c, 1, none⟩ v1).setCell ⟨c, 2, none⟩ v2).setCell ⟨c, 3, none⟩ v3) b cs T := (((h.far hn _).far hn _).far hn _).far hn _
theorem bset4 {w W : World} (h : Below w.heap.size w W) {b : Nat} (hb : w.heap.size ≤ b) (v0 v1 v2 v3 : Value) : Below w.heap.size w ((((W.setCell ⟨b, 0, none⟩ v0).setCell ⟨b, 1, none⟩ v1).setCell ⟨b, 2, none⟩ v2).setCell ⟨b, 3, none⟩ v3) := bset (bset (bset (bset h hb _ _) hb _ _) hb _ _) hb _ _
/-- Shrink's memory, the smaller box in block B. -/
structure Shs (w W : World) (B : Nat) (a b c d k : Int) (cs : Array Value) : Prop where
 all : Shr w W a b c d k
 small : At W B cs 162
 far : w.heap.size + 3 ≤ B
theorem Shs.below {w W W' : World} {B : Nat} {a b c d k : Int} {cs : Array Value} (h : Shs w W B a b c d k cs) (hb : Below W.heap.size W W') : Shs w W' B a b c d k cs := ⟨h.all.below hb, h.small.below hb, h.far⟩
theorem Shr.fresh {w W : World} {a b c d k : Int} (h : Shr w W a b c d k) (cs : Array Value) : Shs w (W.alloc (.cells cs 162)) W.heap.size a b c d k cs := ⟨h.below (bal (br W) _), At.new _ _ _, h.each.lt⟩
theorem Shr.put {w W : World} {B : Nat} {a b c d k : Int} {x0 x1 x2 x3 : Value} (h : Shr w W a b c d k) (hA : At W B #[x0, x1, x2, x3] 162) (hB : w.heap.size + 3 ≤ B) (v0 v1 v2 v3 : Value) : Shs w ((((W.setCell ⟨B, 0, none⟩ v0).setCell ⟨B, 1, none⟩ v1).setCell ⟨B, 2, none⟩ v2).setCell ⟨B, 3, none⟩ v3) B a b c d k #[v0, v1, v2, v3] :=
 ⟨⟨h.walls.far4 (by omega) _ _ _ _, h.res.far4 (by omega) _ _ _ _, h.each.far4 (by omega) _ _ _ _, bset4 h.old (by omega) _ _ _ _⟩, hA.put4 _ _ _ _, hB⟩
theorem results_box {fn : Func} (h : fn.results = #[.cell 4 162, .tmp 5]) (tmps : Array Value) (W : World) (b : Nat) (hp : tmps[4]?.getD undef = .pointer (some ⟨b, 0, none⟩)) (v0 v1 v2 v3 : Value) (hA : At W b #[v0, v1, v2, v3] 162) :
 (results fn tmps).run Tryz.prog W = .ok (.tuple #[.agg #[v0, v1, v2, v3], tmps.getD 5 undef]) W := by
 obtain ⟨c0, c1, c2, c3⟩ := hA.four
 simp [results, h, hp, go_sem, c0, c1, c2, c3]

set_option maxRecDepth 100000 in
theorem shrink_yes (a b c d k : Int) (ha : In32 a) (hb : In32 b) (hc : In32 c) (hd : In32 d) (hk : In32 k) (hr : rightB (satI (a + k)) (satI (b + k)) (satI (c - k)) (satI (d - k)) = true) (w : World) :
 Calls Tryz.prog 166 #[box a b c d, .int .i32 k] w fun e w' => e = .returned (.tuple #[box (satI (a + k)) (satI (b + k)) (satI (c - k)) (satI (d - k)), .bool true]) ∧ Below w.heap.size w w' := by
 have hF := hid (shr_new w a b c d k)
 go_enter Tryz.func166, Tryz.ntmps166
 go_upto_region 2 with (fail)
 generalize ((w.alloc (.cells #[.int .i32 a, .int .i32 b, .int .i32 c, .int .i32 d] 162)).alloc (.cells #[.int .i32 0, .int .i32 0, .int .i32 0, .int .i32 0] 162)).alloc (.cells #[.int .i32 k, .int .i32 k] 57) = y0 at hF ⊢
 have S0 := hF.out.cells
 have M1 := Nat.ne_of_gt hF.out.walls.lt
 have M2 := Nat.ne_of_gt hF.out.each.lt
 go_region_held3 (fun W => W.cell? ⟨w.heap.size, 0, none⟩ = some (.int .i32 a) ∧ W.cell? ⟨w.heap.size, 1, none⟩ = some (.int .i32 b) ∧ W.cell? ⟨w.heap.size, 2, none⟩ = some (.int .i32 c) ∧ W.cell? ⟨w.heap.size, 3, none⟩ = some (.int .i32 d) ∧ W.cell? ⟨w.heap.size + 1 + 1, 0, none⟩ = some (.int .i32 k) ∧ W.cell? ⟨w.heap.size + 1 + 1, 1, none⟩ = some (.int .i32 k)) (first | with_reducible assumption | go_keep)
  (first
  | (go_at_call 109; ((refine (vadd_c _ _ _ _ ha hb hk hk _).mono ?_); rintro e y1 ⟨rfl, h1⟩; have H1 := hid h1; clear h1; have hG := hid (hF.out.below (show Below y0.heap.size y0 _ by first | exact H1.out | exact bt (bd1 (br _)) H1.out | exact bt (bal (br _) _) H1.out | exact bt (bal (bd1 (br _)) _) H1.out | exact bt (bd1 (bal (br _) _)) H1.out)); have S1 := hG.out.cells; have N1 := Nat.ne_of_gt hG.out.walls.lt; have N2 := Nat.ne_of_gt hG.out.each.lt; try (first | have hA := hid ((At.new y0 #[.int .i32 0, .int .i32 0, .int .i32 0, .int .i32 0] 162).below H1.out) | have hA := hid ((At.new y0 #[.int .i32 0, .int .i32 0, .int .i32 0, .int .i32 0] 162).drew.below H1.out) | have hA := hid ((At.new y0.drew #[.int .i32 0, .int .i32 0, .int .i32 0, .int .i32 0] 162).below H1.out))))
  | (go_at_call 145; ((refine (vsub_c _ _ _ _ hc hd hk hk _).mono ?_); rintro e y2 ⟨rfl, h2⟩; have H2 := hid h2; clear h2; have hH := hid (hG.out.below (show Below y1.heap.size y1 _ by first | exact H2.out | exact bt (bd1 (br _)) H2.out | exact bt (bal (br _) _) H2.out | exact bt (bal (bd1 (br _)) _) H2.out | exact bt (bd1 (bal (br _) _)) H2.out)); have S2 := hH.out.cells; try (first | have hA2 := hid (hA.out.below H2.out) | have hA2 := hid ((At.new y1 #[.int .i32 0, .int .i32 0, .int .i32 0, .int .i32 0] 162).below H2.out)); try (obtain ⟨z0, z1, z2, z3⟩ := hA2.out.four; have fz := hA2.out.frozen; have L := hA2.out.lt))))
 · have hM := hid (hH.out.fresh #[.int .i32 (satI (a + k)), .int .i32 (satI (b + k)), .int .i32 (satI (c - k)), .int .i32 (satI (d - k))])
   generalize y2.alloc (.cells #[.int .i32 (satI (a + k)), .int .i32 (satI (b + k)), .int .i32 (satI (c - k)), .int .i32 (satI (d - k))] 162) = Z at hM ⊢
   generalize y2.heap.size = B at hM ⊢
   clear hG hH S1 S2 N1 N2 H1 H2
   have s0 := hM.out.small.four
   go_wp2_with (go_at_call 171; ((with_reducible refine (right_c _ _ _ _ _).mono ?_); rintro e y3 ⟨rfl, h3⟩; rw [hr]; have hN := hid (hM.out.below h3); clear h3; obtain ⟨t0, t1, t2, t3⟩ := hN.out.small.four; obtain ⟨r0, r1, r2, r3⟩ := hN.out.all.res.four; obtain ⟨x0, x1, x2, x3⟩ := hN.out.all.walls.four; have fr := hN.out.all.res.frozen))
   refine bodyPost_ret (results_box rfl _ _ (w.heap.size + 1) rfl _ _ _ _ (hN.out.all.res.put4 _ _ _ _)) rfl ?_
   exact ⟨rfl, bset4 hN.out.all.old (by omega) _ _ _ _⟩
 · have hM := hid (hH.out.put hA2.out hG.out.each.lt (.int .i32 (satI (a + k))) (.int .i32 (satI (b + k))) (.int .i32 (satI (c - k))) (.int .i32 (satI (d - k))))
   generalize (((y2.setCell ⟨y1.heap.size, 0, none⟩ (.int .i32 (satI (a + k)))).setCell ⟨y1.heap.size, 1, none⟩ (.int .i32 (satI (b + k)))).setCell ⟨y1.heap.size, 2, none⟩ (.int .i32 (satI (c - k)))).setCell ⟨y1.heap.size, 3, none⟩ (.int .i32 (satI (d - k))) = Z at hM ⊢
   generalize y1.heap.size = B at hM ⊢
   clear hG hH S1 S2 N1 N2 H1 H2 hA2 z0 z1 z2 z3 fz L
   have s0 := hM.out.small.four
   go_wp2_with (go_at_call 171; ((with_reducible refine (right_c _ _ _ _ _).mono ?_); rintro e y3 ⟨rfl, h3⟩; rw [hr]; have hN := hid (hM.out.below h3); clear h3; obtain ⟨t0, t1, t2, t3⟩ := hN.out.small.four; obtain ⟨r0, r1, r2, r3⟩ := hN.out.all.res.four; obtain ⟨x0, x1, x2, x3⟩ := hN.out.all.walls.four; have fr := hN.out.all.res.frozen))
   refine bodyPost_ret (results_box rfl _ _ (w.heap.size + 1) rfl _ _ _ _ (hN.out.all.res.put4 _ _ _ _)) rfl ?_
   exact ⟨rfl, bset4 hN.out.all.old (by omega) _ _ _ _⟩
 · have hM := hid (hH.out.put hA2.out hF.out.each.lt (.int .i32 (satI (a + k))) (.int .i32 (satI (b + k))) (.int .i32 (satI (c - k))) (.int .i32 (satI (d - k))))
   generalize (((y2.setCell ⟨y0.heap.size, 0, none⟩ (.int .i32 (satI (a + k)))).setCell ⟨y0.heap.size, 1, none⟩ (.int .i32 (satI (b + k)))).setCell ⟨y0.heap.size, 2, none⟩ (.int .i32 (satI (c - k)))).setCell ⟨y0.heap.size, 3, none⟩ (.int .i32 (satI (d - k))) = Z at hM ⊢
   generalize y0.heap.size = B at hM ⊢
   clear hG hH S1 S2 N1 N2 H1 H2 hA2 z0 z1 z2 z3 fz L
   have s0 := hM.out.small.four
   go_wp2_with (go_at_call 171; ((with_reducible refine (right_c _ _ _ _ _).mono ?_); rintro e y3 ⟨rfl, h3⟩; rw [hr]; have hN := hid (hM.out.below h3); clear h3; obtain ⟨t0, t1, t2, t3⟩ := hN.out.small.four; obtain ⟨r0, r1, r2, r3⟩ := hN.out.all.res.four; obtain ⟨x0, x1, x2, x3⟩ := hN.out.all.walls.four; have fr := hN.out.all.res.frozen))
   refine bodyPost_ret (results_box rfl _ _ (w.heap.size + 1) rfl _ _ _ _ (hN.out.all.res.put4 _ _ _ _)) rfl ?_
   exact ⟨rfl, bset4 hN.out.all.old (by omega) _ _ _ _⟩

set_option maxRecDepth 100000 in
theorem shrink_no (a b c d k : Int) (ha : In32 a) (hb : In32 b) (hc : In32 c) (hd : In32 d) (hk : In32 k) (hr : rightB (satI (a + k)) (satI (b + k)) (satI (c - k)) (satI (d - k)) = false) (w : World) :
 Calls Tryz.prog 166 #[box a b c d, .int .i32 k] w fun e w' => e = .returned (.tuple #[box a b c d, .bool false]) ∧ Below w.heap.size w w' := by
 have hF := hid (shr_new w a b c d k)
 go_enter Tryz.func166, Tryz.ntmps166
 go_upto_region 2 with (fail)
 generalize ((w.alloc (.cells #[.int .i32 a, .int .i32 b, .int .i32 c, .int .i32 d] 162)).alloc (.cells #[.int .i32 0, .int .i32 0, .int .i32 0, .int .i32 0] 162)).alloc (.cells #[.int .i32 k, .int .i32 k] 57) = y0 at hF ⊢
 have S0 := hF.out.cells
 have M1 := Nat.ne_of_gt hF.out.walls.lt
 have M2 := Nat.ne_of_gt hF.out.each.lt
 go_region_held3 (fun W => W.cell? ⟨w.heap.size, 0, none⟩ = some (.int .i32 a) ∧ W.cell? ⟨w.heap.size, 1, none⟩ = some (.int .i32 b) ∧ W.cell? ⟨w.heap.size, 2, none⟩ = some (.int .i32 c) ∧ W.cell? ⟨w.heap.size, 3, none⟩ = some (.int .i32 d) ∧ W.cell? ⟨w.heap.size + 1 + 1, 0, none⟩ = some (.int .i32 k) ∧ W.cell? ⟨w.heap.size + 1 + 1, 1, none⟩ = some (.int .i32 k)) (first | with_reducible assumption | go_keep)
  (first
  | (go_at_call 109; ((refine (vadd_c _ _ _ _ ha hb hk hk _).mono ?_); rintro e y1 ⟨rfl, h1⟩; have H1 := hid h1; clear h1; have hG := hid (hF.out.below (show Below y0.heap.size y0 _ by first | exact H1.out | exact bt (bd1 (br _)) H1.out | exact bt (bal (br _) _) H1.out | exact bt (bal (bd1 (br _)) _) H1.out | exact bt (bd1 (bal (br _) _)) H1.out)); have S1 := hG.out.cells; have N1 := Nat.ne_of_gt hG.out.walls.lt; have N2 := Nat.ne_of_gt hG.out.each.lt; try (first | have hA := hid ((At.new y0 #[.int .i32 0, .int .i32 0, .int .i32 0, .int .i32 0] 162).below H1.out) | have hA := hid ((At.new y0 #[.int .i32 0, .int .i32 0, .int .i32 0, .int .i32 0] 162).drew.below H1.out) | have hA := hid ((At.new y0.drew #[.int .i32 0, .int .i32 0, .int .i32 0, .int .i32 0] 162).below H1.out))))
  | (go_at_call 145; ((refine (vsub_c _ _ _ _ hc hd hk hk _).mono ?_); rintro e y2 ⟨rfl, h2⟩; have H2 := hid h2; clear h2; have hH := hid (hG.out.below (show Below y1.heap.size y1 _ by first | exact H2.out | exact bt (bd1 (br _)) H2.out | exact bt (bal (br _) _) H2.out | exact bt (bal (bd1 (br _)) _) H2.out | exact bt (bd1 (bal (br _) _)) H2.out)); have S2 := hH.out.cells; try (first | have hA2 := hid (hA.out.below H2.out) | have hA2 := hid ((At.new y1 #[.int .i32 0, .int .i32 0, .int .i32 0, .int .i32 0] 162).below H2.out)); try (obtain ⟨z0, z1, z2, z3⟩ := hA2.out.four; have fz := hA2.out.frozen; have L := hA2.out.lt))))
 · have hM := hid (hH.out.fresh #[.int .i32 (satI (a + k)), .int .i32 (satI (b + k)), .int .i32 (satI (c - k)), .int .i32 (satI (d - k))])
   generalize y2.alloc (.cells #[.int .i32 (satI (a + k)), .int .i32 (satI (b + k)), .int .i32 (satI (c - k)), .int .i32 (satI (d - k))] 162) = Z at hM ⊢
   generalize y2.heap.size = B at hM ⊢
   clear hG hH S1 S2 N1 N2 H1 H2
   have s0 := hM.out.small.four
   go_wp2_with (go_at_call 171; ((with_reducible refine (right_c _ _ _ _ _).mono ?_); rintro e y3 ⟨rfl, h3⟩; rw [hr]; have hN := hid (hM.out.below h3); clear h3; obtain ⟨t0, t1, t2, t3⟩ := hN.out.small.four; obtain ⟨r0, r1, r2, r3⟩ := hN.out.all.res.four; obtain ⟨x0, x1, x2, x3⟩ := hN.out.all.walls.four; have fr := hN.out.all.res.frozen))
   refine bodyPost_ret (results_box rfl _ _ (w.heap.size + 1) rfl _ _ _ _ (hN.out.all.res.put4 _ _ _ _)) rfl ?_
   exact ⟨rfl, bset4 hN.out.all.old (by omega) _ _ _ _⟩
 · have hM := hid (hH.out.put hA2.out hG.out.each.lt (.int .i32 (satI (a + k))) (.int .i32 (satI (b + k))) (.int .i32 (satI (c - k))) (.int .i32 (satI (d - k))))
   generalize (((y2.setCell ⟨y1.heap.size, 0, none⟩ (.int .i32 (satI (a + k)))).setCell ⟨y1.heap.size, 1, none⟩ (.int .i32 (satI (b + k)))).setCell ⟨y1.heap.size, 2, none⟩ (.int .i32 (satI (c - k)))).setCell ⟨y1.heap.size, 3, none⟩ (.int .i32 (satI (d - k))) = Z at hM ⊢
   generalize y1.heap.size = B at hM ⊢
   clear hG hH S1 S2 N1 N2 H1 H2 hA2 z0 z1 z2 z3 fz L
   have s0 := hM.out.small.four
   go_wp2_with (go_at_call 171; ((with_reducible refine (right_c _ _ _ _ _).mono ?_); rintro e y3 ⟨rfl, h3⟩; rw [hr]; have hN := hid (hM.out.below h3); clear h3; obtain ⟨t0, t1, t2, t3⟩ := hN.out.small.four; obtain ⟨r0, r1, r2, r3⟩ := hN.out.all.res.four; obtain ⟨x0, x1, x2, x3⟩ := hN.out.all.walls.four; have fr := hN.out.all.res.frozen))
   refine bodyPost_ret (results_box rfl _ _ (w.heap.size + 1) rfl _ _ _ _ (hN.out.all.res.put4 _ _ _ _)) rfl ?_
   exact ⟨rfl, bset4 hN.out.all.old (by omega) _ _ _ _⟩
 · have hM := hid (hH.out.put hA2.out hF.out.each.lt (.int .i32 (satI (a + k))) (.int .i32 (satI (b + k))) (.int .i32 (satI (c - k))) (.int .i32 (satI (d - k))))
   generalize (((y2.setCell ⟨y0.heap.size, 0, none⟩ (.int .i32 (satI (a + k)))).setCell ⟨y0.heap.size, 1, none⟩ (.int .i32 (satI (b + k)))).setCell ⟨y0.heap.size, 2, none⟩ (.int .i32 (satI (c - k)))).setCell ⟨y0.heap.size, 3, none⟩ (.int .i32 (satI (d - k))) = Z at hM ⊢
   generalize y0.heap.size = B at hM ⊢
   clear hG hH S1 S2 N1 N2 H1 H2 hA2 z0 z1 z2 z3 fz L
   have s0 := hM.out.small.four
   go_wp2_with (go_at_call 171; ((with_reducible refine (right_c _ _ _ _ _).mono ?_); rintro e y3 ⟨rfl, h3⟩; rw [hr]; have hN := hid (hM.out.below h3); clear h3; obtain ⟨t0, t1, t2, t3⟩ := hN.out.small.four; obtain ⟨r0, r1, r2, r3⟩ := hN.out.all.res.four; obtain ⟨x0, x1, x2, x3⟩ := hN.out.all.walls.four; have fr := hN.out.all.res.frozen))
   refine bodyPost_ret (results_box rfl _ _ (w.heap.size + 1) rfl _ _ _ _ (hN.out.all.res.put4 _ _ _ _)) rfl ?_
   exact ⟨rfl, bset4 hN.out.all.old (by omega) _ _ _ _⟩

end Go.Proofs.YtfclnhmijjlhdaaGreatDoor.Sh
