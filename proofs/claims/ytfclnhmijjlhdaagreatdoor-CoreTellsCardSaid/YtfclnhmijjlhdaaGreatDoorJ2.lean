/- Places and boxes in memory; what Push, Slow and Touch, and the document's, return (layer 10, shape). -/
/- What Move returns; the memory of the document's (layer 10, shape). -/
import Derived.Test.YtfclnhmijjlhdaaGreatDoorShA
import Derived.Deep.Cut
namespace Go.Proofs.YtfclnhmijjlhdaaGreatDoor.Sh
open Go.RowKit Go.Proofs.YtfclnhmijjlhdaaGreatDoor.Fx Go.Proofs.YtfclnhmijjlhdaaGreatDoor.Tg
set_option linter.unusedVariables false

/-- block b holds just these cells. -/
def At (w : World) (b : Nat) (cs : Array Value) (T : TypeId) : Prop := w.heap[b]? = some (.cells cs T (0, 0))
theorem At.new (w : World) (cs : Array Value) (T : TypeId) : At (w.alloc (.cells cs T)) w.heap.size cs T := heap_alloc_new w _
theorem At.below {w w' : World} {b : Nat} {cs : Array Value} {T : TypeId} (h : At w b cs T) (hb : Below w.heap.size w w') : At w' b cs T := by
 unfold At at h ⊢
 rw [hb.block b (Array.getElem?_eq_some_iff.1 h).1]
 exact h
theorem At.more {w : World} {b : Nat} {cs : Array Value} {T : TypeId} (h : At w b cs T) (o : Obj) : At (w.alloc o) b cs T := h.below (bal (br w) o)
theorem At.drew {w : World} {b : Nat} {cs : Array Value} {T : TypeId} (h : At w b cs T) : At w.drew b cs T := h.below (bd1 (br w))
theorem At.lt {w : World} {b : Nat} {cs : Array Value} {T : TypeId} (h : At w b cs T) : b < w.heap.size := (Array.getElem?_eq_some_iff.1 h).1
theorem At.frozen {w : World} {b : Nat} {cs : Array Value} {T : TypeId} (h : At w b cs T) (j : Nat) : w.frozen? ⟨b, j, none⟩ = false := frozen_of_row w b j _ _ h
theorem At.two {w : World} {b : Nat} {v0 v1 : Value} {T : TypeId} (h : At w b #[v0, v1] T) : w.cell? ⟨b, 0, none⟩ = some v0 ∧ w.cell? ⟨b, 1, none⟩ = some v1 := by
 have hc := fun j => cell_of_row w b j _ _ _ h
 refine ⟨?_, ?_⟩ <;> (rw [hc]; rfl)
theorem At.four {w : World} {b : Nat} {v0 v1 v2 v3 : Value} {T : TypeId} (h : At w b #[v0, v1, v2, v3] T) : w.cell? ⟨b, 0, none⟩ = some v0 ∧ w.cell? ⟨b, 1, none⟩ = some v1 ∧ w.cell? ⟨b, 2, none⟩ = some v2 ∧ w.cell? ⟨b, 3, none⟩ = some v3 := by
 have hc := fun j => cell_of_row w b j _ _ _ h
 refine ⟨?_, ?_, ?_, ?_⟩ <;> (rw [hc]; rfl)
theorem At.set0 {w : World} {b : Nat} {x0 x1 : Value} {T : TypeId} (h : At w b #[x0, x1] T) (v : Value) : At (w.setCell ⟨b, 0, none⟩ v) b #[v, x1] T := heap_setCell_same w b 0 _ _ v h
theorem At.set1 {w : World} {b : Nat} {x0 x1 : Value} {T : TypeId} (h : At w b #[x0, x1] T) (v : Value) : At (w.setCell ⟨b, 1, none⟩ v) b #[x0, v] T := heap_setCell_same w b 1 _ _ v h
theorem At.far {w : World} {b c j : Nat} {cs : Array Value} {T : TypeId} (h : At w b cs T) (hn : b ≠ c) (v : Value) : At (w.setCell ⟨c, j, none⟩ v) b cs T := by
 unfold At at h ⊢
 rw [Below.heap_setCell _ _ _ _ hn]
 exact h
/-- an answer that lies in a block. -/
theorem results_vec {fn : Func} {k : Nat} (h : fn.results = #[.cell k 57]) (tmps : Array Value) (W : World) (b : Nat) (hp : tmps[k]?.getD undef = .pointer (some ⟨b, 0, none⟩)) (v0 v1 : Value) (hA : At W b #[v0, v1] 57) :
 (results fn tmps).run Tryz.prog W = .ok (.agg #[v0, v1]) W := by
 obtain ⟨c0, c1⟩ := hA.two
 simp [results, h, hp, go_sem, c0, c1]
theorem bset {w W : World} (h : Below w.heap.size w W) {b : Nat} (hb : w.heap.size ≤ b) (j : Nat) (v : Value) : Below w.heap.size w (W.setCell ⟨b, j, none⟩ v) := h.setCell hb v

/-- a part of a way, cut to 'm' if the way is longer. -/
def slI (z x y m : Int) : Int := if m < lenI x y then stepI z (lenI x y) m else z
theorem sl_yes (z x y m : Int) (h : m < lenI x y) : slI z x y m = stepI z (lenI x y) m := by unfold slI; rw [if_pos h]
theorem sl_no (z x y m : Int) (h : ¬ m < lenI x y) : slI z x y m = z := by unfold slI; rw [if_neg h]

set_option maxRecDepth 100000 in
theorem slow_c (a b k m : Int) (ha : In32 a) (hb : In32 b) (hk : In32 k) (hm : In32 m) (w : World) :
 Calls Tryz.prog 144 #[vec a b, .int .i32 k, .int .i32 m] w fun e w' => e = .returned (vec (slI (satI (a * k / 65536)) (satI (a * k / 65536)) (satI (b * k / 65536)) m) (slI (satI (b * k / 65536)) (satI (a * k / 65536)) (satI (b * k / 65536)) m)) ∧ Below w.heap.size w w' := by
 have hA := hid (At.new (w.alloc (.cells #[.int .i32 a, .int .i32 b] 57)) #[.int .i32 0, .int .i32 0] 57)
 have hB := hid (bal (bal (br w) (.cells #[.int .i32 a, .int .i32 b] 57)) (.cells #[.int .i32 0, .int .i32 0] 57))
 rw [show (w.alloc (.cells #[.int .i32 a, .int .i32 b] 57)).heap.size = w.heap.size + 1 by simp] at hA
 by_cases hl : m < lenI (satI (a * k / 65536)) (satI (b * k / 65536))
 · rw [sl_yes _ _ _ _ hl, sl_yes _ _ _ _ hl]
   go_enter Tryz.func144, Tryz.ntmps144
   go_wp2_with (first
    | (go_at_call 142; ((with_reducible refine (vscale_c _ _ _ ha hb hk _).mono ?_); rintro e y1 ⟨rfl, h1⟩; have H1 := hid h1; clear h1; have hC := hid ((hA.out.below H1.out).more (.cells #[.int .i32 (satI (a * k / 65536)), .int .i32 (satI (b * k / 65536))] 57)); obtain ⟨c0, c1⟩ := hC.out.two; have f := hC.out.frozen))
    | (go_at_call 173; ((with_reducible refine (length_c _ _ (sat_bd _) (sat_bd _) _).mono ?_); rintro e y2 ⟨rfl, rfl⟩))
    | (go_at_call 174; ((with_reducible refine (step_c _ _ _ (sat_bd _) (sat_bd _) hm _).mono ?_); rintro e y3 ⟨rfl, h3⟩; have H3 := hid h3; clear h3; have hD := hid (hC.out.below H3.out); obtain ⟨d0, d1⟩ := hD.out.two; have g := hD.out.frozen)))
   refine bodyPost_ret (results_vec rfl _ _ (w.heap.size + 1) rfl _ _ ((hD.out.set0 _).set1 _)) rfl ?_
   exact ⟨rfl, bset (bset (bt (bal (bt hB.out H1.out) _) H3.out) (by omega) _ _) (by omega) _ _⟩
 · rw [sl_no _ _ _ _ hl, sl_no _ _ _ _ hl]
   go_enter Tryz.func144, Tryz.ntmps144
   go_wp2_with (first
    | (go_at_call 142; ((with_reducible refine (vscale_c _ _ _ ha hb hk _).mono ?_); rintro e y1 ⟨rfl, h1⟩; have H1 := hid h1; clear h1; have hC := hid ((hA.out.below H1.out).more (.cells #[.int .i32 (satI (a * k / 65536)), .int .i32 (satI (b * k / 65536))] 57)); obtain ⟨c0, c1⟩ := hC.out.two; have f := hC.out.frozen))
    | (go_at_call 173; ((with_reducible refine (length_c _ _ (sat_bd _) (sat_bd _) _).mono ?_); rintro e y2 ⟨rfl, rfl⟩))
    | (go_at_call 174; ((with_reducible refine (step_c _ _ _ (sat_bd _) (sat_bd _) hm _).mono ?_); rintro e y3 ⟨rfl, h3⟩; have H3 := hid h3; clear h3; have hD := hid (hC.out.below H3.out); obtain ⟨d0, d1⟩ := hD.out.two; have g := hD.out.frozen)))
   refine bodyPost_ret (results_vec rfl _ _ (w.heap.size + 1) rfl _ _ ((hC.out.set0 _).set1 _)) rfl ?_
   exact ⟨rfl, bset (bset (bal (bt hB.out H1.out) _) (by omega) _ _) (by omega) _ _⟩

set_option maxRecDepth 100000 in
theorem rslow_c (a b k m : Int) (ha : In32 a) (hb : In32 b) (hk : In32 k) (hm : In32 m) (w : World) :
 Calls Tryz.prog 196 #[vec a b, .int .i32 k, .int .i32 m] w fun e w' => e = .returned (vec (slI (satI (a * k / 65536)) (satI (a * k / 65536)) (satI (b * k / 65536)) m) (slI (satI (b * k / 65536)) (satI (a * k / 65536)) (satI (b * k / 65536)) m)) ∧ Below w.heap.size w w' := by
 have hA := hid (At.new (w.alloc (.cells #[.int .i32 a, .int .i32 b] 57)) #[.int .i32 0, .int .i32 0] 57)
 have hB := hid (bal (bal (br w) (.cells #[.int .i32 a, .int .i32 b] 57)) (.cells #[.int .i32 0, .int .i32 0] 57))
 rw [show (w.alloc (.cells #[.int .i32 a, .int .i32 b] 57)).heap.size = w.heap.size + 1 by simp] at hA
 by_cases hl : m < lenI (satI (a * k / 65536)) (satI (b * k / 65536))
 · rw [sl_yes _ _ _ _ hl, sl_yes _ _ _ _ hl]
   go_enter Tryz.func196, Tryz.ntmps196
   go_wp2_with (first
    | (go_at_call 193; ((with_reducible refine (rscale_c _ _ _ ha hb hk _).mono ?_); rintro e y1 ⟨rfl, h1⟩; have H1 := hid h1; clear h1; have hC := hid ((hA.out.below H1.out).more (.cells #[.int .i32 (satI (a * k / 65536)), .int .i32 (satI (b * k / 65536))] 57)); obtain ⟨c0, c1⟩ := hC.out.two; have f := hC.out.frozen))
    | (go_at_call 226; ((with_reducible refine (rlength_c _ _ (sat_bd _) (sat_bd _) _).mono ?_); rintro e y2 ⟨rfl, rfl⟩))
    | (go_at_call 227; ((with_reducible refine (rtoward_c _ _ _ (sat_bd _) (sat_bd _) hm _).mono ?_); rintro e y3 ⟨rfl, rfl⟩)))
   refine bodyPost_ret (results_vec rfl _ _ (w.heap.size + 1) rfl _ _ ((hC.out.set0 _).set1 _)) rfl ?_
   exact ⟨rfl, bset (bset (bal (bt hB.out H1.out) _) (by omega) _ _) (by omega) _ _⟩
 · rw [sl_no _ _ _ _ hl, sl_no _ _ _ _ hl]
   go_enter Tryz.func196, Tryz.ntmps196
   go_wp2_with (first
    | (go_at_call 193; ((with_reducible refine (rscale_c _ _ _ ha hb hk _).mono ?_); rintro e y1 ⟨rfl, h1⟩; have H1 := hid h1; clear h1; have hC := hid ((hA.out.below H1.out).more (.cells #[.int .i32 (satI (a * k / 65536)), .int .i32 (satI (b * k / 65536))] 57)); obtain ⟨c0, c1⟩ := hC.out.two; have f := hC.out.frozen))
    | (go_at_call 226; ((with_reducible refine (rlength_c _ _ (sat_bd _) (sat_bd _) _).mono ?_); rintro e y2 ⟨rfl, rfl⟩))
    | (go_at_call 227; ((with_reducible refine (rtoward_c _ _ _ (sat_bd _) (sat_bd _) hm _).mono ?_); rintro e y3 ⟨rfl, rfl⟩)))
   refine bodyPost_ret (results_vec rfl _ _ (w.heap.size + 1) rfl _ _ ((hC.out.set0 _).set1 _)) rfl ?_
   exact ⟨rfl, bset (bset (bal (bt hB.out H1.out) _) (by omega) _ _) (by omega) _ _⟩

/-- do circles touch? -/
def touchB (a b r c d s : Int) : Bool := nearB (satI (c - a)) (satI (d - b)) (satI (r + s))
set_option maxRecDepth 100000 in
theorem touch_c (a b r c d s : Int) (ha : In32 a) (hb : In32 b) (hr : In32 r) (hc : In32 c) (hd : In32 d) (hs : In32 s) (w : World) :
 Calls Tryz.prog 107 #[vec a b, .int .i32 r, vec c d, .int .i32 s] w fun e w' => e = .returned (.bool (touchB a b r c d s)) ∧ Below w.heap.size w w' := by
 have hB := hid (bal (bal (br w) (.cells #[.int .i32 a, .int .i32 b] 57)) (.cells #[.int .i32 c, .int .i32 d] 57))
 unfold touchB
 go_enter Tryz.func107, Tryz.ntmps107
 go_wp2_with (go_at_call 145; ((with_reducible refine (vsub_c _ _ _ _ hc hd ha hb _).mono ?_); rintro e y1 ⟨rfl, h1⟩; have H1 := hid h1; clear h1))
 go_region_held3 (fun W => W.cell? ⟨y1.heap.size, 0, none⟩ = some (.int .i32 (satI (c - a))) ∧ W.cell? ⟨y1.heap.size, 1, none⟩ = some (.int .i32 (satI (d - b)))) (go_keep) (first
  | (go_at_call 147; ((with_reducible refine (add_c _ _ hr hs _).mono ?_); rintro e w' ⟨rfl, rfl⟩))
  | (go_at_call 146; ((with_reducible refine (near_c _ _ _ (sat_bd _) (sat_bd _) (sat_bd _) _).mono ?_); rintro e w' ⟨rfl, rfl⟩)))
 go_wp2_with fail
 go_ret
 exact ⟨rfl, bd1 (bal (bt hB.out H1.out) _)⟩

set_option maxRecDepth 100000 in
theorem rtouch_c (a b r c d s : Int) (ha : In32 a) (hb : In32 b) (hr : In32 r) (hc : In32 c) (hd : In32 d) (hs : In32 s) (w : World) :
 Calls Tryz.prog 158 #[vec a b, .int .i32 r, vec c d, .int .i32 s] w fun e w' => e = .returned (.bool (touchB a b r c d s)) ∧ Below w.heap.size w w' := by
 have hB := hid (bal (bal (br w) (.cells #[.int .i32 a, .int .i32 b] 57)) (.cells #[.int .i32 c, .int .i32 d] 57))
 have hrs := sat_bd (r + s)
 have HZ := hid (show sqsI (satI (r + s)) 0 = satI (r + s) * satI (r + s) by unfold sqsI; omega)
 unfold touchB nearB
 by_cases h0 : 0 ≤ satI (r + s)
 · have h0' : decide (0 ≤ satI (r + s)) = true := by simpa using h0
   rw [h0', Bool.true_and]
   go_enter Tryz.func158, Tryz.ntmps158
   go_wp2_with (first
    | (go_at_call 199; ((with_reducible refine (rless_c _ _ _ _ hc hd ha hb _).mono ?_); rintro e y1 ⟨rfl, h1⟩; have H1 := hid h1; clear h1))
    | (go_at_call 200; ((with_reducible refine (radd_c _ _ hr hs _).mono ?_); rintro e w' ⟨rfl, rfl⟩))
    | (go_at_call 201; ((with_reducible refine (rsquares_c _ _ (sat_bd _) (sat_bd _) _).mono ?_); rintro e w' ⟨rfl, rfl⟩))
    | (go_at_call 201; ((with_reducible refine (rsquares_c _ _ (sat_bd _) (by omega) _).mono ?_); rintro e w' ⟨rfl, rfl⟩; rw [HZ.out])))
   go_ret
   exact ⟨rfl, bal (bt hB.out H1.out) _⟩
 · have h0' : decide (0 ≤ satI (r + s)) = false := by simpa using h0
   rw [h0', Bool.false_and]
   go_enter Tryz.func158, Tryz.ntmps158
   go_wp2_with (first
    | (go_at_call 199; ((with_reducible refine (rless_c _ _ _ _ hc hd ha hb _).mono ?_); rintro e y1 ⟨rfl, h1⟩; have H1 := hid h1; clear h1))
    | (go_at_call 200; ((with_reducible refine (radd_c _ _ hr hs _).mono ?_); rintro e w' ⟨rfl, rfl⟩)))
   go_ret
   exact ⟨rfl, bal (bt hB.out H1.out) _⟩

end Go.Proofs.YtfclnhmijjlhdaaGreatDoor.Sh

namespace Go.Proofs.YtfclnhmijjlhdaaGreatDoor.Sh
open Go.RowKit Go.Proofs.YtfclnhmijjlhdaaGreatDoor.Fx Go.Proofs.YtfclnhmijjlhdaaGreatDoor.Tg
set_option linter.unusedVariables false

/-- the memory of a move: its three arguments, and its two answers. -/
def Five (w W : World) (p q u v a b c d : Int) : Prop := At W w.heap.size #[.int .i32 p, .int .i32 q] 57 ∧ At W (w.heap.size + 1) #[.int .i32 u, .int .i32 v] 57 ∧ At W (w.heap.size + 1 + 1) #[.int .i32 a, .int .i32 b, .int .i32 c, .int .i32 d] 162 ∧ At W (w.heap.size + 1 + 1 + 1) #[.int .i32 0, .int .i32 0] 57 ∧ At W (w.heap.size + 1 + 1 + 1 + 1) #[.int .i32 0, .int .i32 0] 57 ∧ Below w.heap.size w W
theorem At.newAt (w : World) (cs : Array Value) (T : TypeId) (n : Nat) (h : w.heap.size = n) : At (w.alloc (.cells cs T)) n cs T := by subst h; exact At.new w cs T
theorem five_new (w : World) (p q u v a b c d : Int) : Five w (((((w.alloc (.cells #[.int .i32 p, .int .i32 q] 57)).alloc (.cells #[.int .i32 u, .int .i32 v] 57)).alloc (.cells #[.int .i32 a, .int .i32 b, .int .i32 c, .int .i32 d] 162)).alloc (.cells #[.int .i32 0, .int .i32 0] 57)).alloc (.cells #[.int .i32 0, .int .i32 0] 57)) p q u v a b c d :=
 ⟨((((At.new w _ _).more _).more _).more _).more _, (((At.newAt _ _ _ _ (by simp)).more _).more _).more _, ((At.newAt _ _ _ _ (by simp)).more _).more _, (At.newAt _ _ _ _ (by simp)).more _, At.newAt _ _ _ _ (by simp), bal (bal (bal (bal (bal (br w) _) _) _) _) _⟩
theorem Five.below {w W W' : World} {p q u v a b c d : Int} (h : Five w W p q u v a b c d) (hb : Below W.heap.size W W') : Five w W' p q u v a b c d :=
 ⟨h.1.below hb, h.2.1.below hb, h.2.2.1.below hb, h.2.2.2.1.below hb, h.2.2.2.2.1.below hb, bt h.2.2.2.2.2 hb⟩
theorem results_move {fn : Func} (h : fn.results = #[.cell 6 57, .cell 7 57, .tmp 8, .tmp 9]) (tmps : Array Value) (W : World) (b c : Nat) (hp : tmps[6]?.getD undef = .pointer (some ⟨b, 0, none⟩)) (hq : tmps[7]?.getD undef = .pointer (some ⟨c, 0, none⟩)) (v0 v1 u0 u1 : Value) (hA : At W b #[v0, v1] 57) (hC : At W c #[u0, u1] 57) :
 (results fn tmps).run Tryz.prog W = .ok (.tuple #[.agg #[v0, v1], .agg #[u0, u1], tmps.getD 8 undef, tmps.getD 9 undef]) W := by
 obtain ⟨c0, c1⟩ := hA.two
 obtain ⟨d0, d1⟩ := hC.two
 simp [results, h, hp, hq, go_sem, c0, c1, d0, d1]
theorem results_rmove {fn : Func} (h : fn.results = #[.cell 6 57, .cell 7 57, .tmp 8]) (tmps : Array Value) (W : World) (b c : Nat) (hp : tmps[6]?.getD undef = .pointer (some ⟨b, 0, none⟩)) (hq : tmps[7]?.getD undef = .pointer (some ⟨c, 0, none⟩)) (v0 v1 u0 u1 : Value) (hA : At W b #[v0, v1] 57) (hC : At W c #[u0, u1] 57) :
 (results fn tmps).run Tryz.prog W = .ok (.tuple #[.agg #[v0, v1], .agg #[u0, u1], tmps.getD 8 undef]) W := by
 obtain ⟨c0, c1⟩ := hA.two
 obtain ⟨d0, d1⟩ := hC.two
 simp [results, h, hp, hq, go_sem, c0, c1, d0, d1]
/-- the walls met, together. -/
def wallI (p q u v a b c d : Int) : Int := mvW p u a c 1 2 + mvW q v b d 4 8
theorem wall_or (p q u v a b c d : Int) : bits .or .i64 (mvW p u a c 1 2) (mvW q v b d 4 8) = wallI p q u v a b c d := by
 unfold wallI mvW
 repeat' split
 all_goals decide

set_option maxRecDepth 100000 in
theorem move_no (p q u v a b c d : Int) (hr : rightB a b c d = false) (w : World) :
 Calls Tryz.prog 143 #[vec p q, vec u v, box a b c d] w fun e w' => e = .returned (.tuple #[vec 0 0, vec 0 0, .int .i64 0, .int .i64 1]) ∧ Below w.heap.size w w' := by
 have hF := hid (five_new w p q u v a b c d)
 go_enter Tryz.func143, Tryz.ntmps143
 go_wp2_with (go_at_call 171; ((with_reducible refine (right_c _ _ _ _ _).mono ?_); rintro e y ⟨rfl, hy⟩; rw [hr]; have hG := hid (hF.out.below hy); clear hy; obtain ⟨c0, c1⟩ := hG.out.2.2.2.1.two; obtain ⟨d0, d1⟩ := hG.out.2.2.2.2.1.two; have f := hG.out.2.2.2.1.frozen; have g := hG.out.2.2.2.2.1.frozen))
 refine bodyPost_ret (results_move rfl _ _ (w.heap.size + 1 + 1 + 1) (w.heap.size + 1 + 1 + 1 + 1) rfl rfl _ _ _ _ ((((hG.out.2.2.2.1.set0 _).set1 _).far (by omega) _).far (by omega) _) ((((hG.out.2.2.2.2.1.far (by omega) _).far (by omega) _).set0 _).set1 _)) rfl ?_
 exact ⟨rfl, bset (bset (bset (bset hG.out.2.2.2.2.2 (by omega) _ _) (by omega) _ _) (by omega) _ _) (by omega) _ _⟩

set_option maxRecDepth 100000 in
theorem move_ok (p q u v a b c d : Int) (hp : In32 p) (hq : In32 q) (hu : In32 u) (hv : In32 v) (ha : In32 a) (hb : In32 b) (hc : In32 c) (hd : In32 d) (hr : rightB a b c d = true) (w : World) :
 Calls Tryz.prog 143 #[vec p q, vec u v, box a b c d] w fun e w' => e = .returned (.tuple #[vec (mvP p u a c) (mvP q v b d), vec (mvV p u a c) (mvV q v b d), .int .i64 (wallI p q u v a b c d), .int .i64 0]) ∧ Below w.heap.size w w' := by
 have hF := hid (five_new w p q u v a b c d)
 have hW := wall_or p q u v a b c d
 go_enter Tryz.func143, Tryz.ntmps143
 go_wp2_with (first
  | (go_at_call 171; ((with_reducible refine (right_c _ _ _ _ _).mono ?_); rintro e y ⟨rfl, hy⟩; rw [hr]; have hG := hid (hF.out.below hy); clear hy; obtain ⟨p0, p1⟩ := hG.out.1.two; obtain ⟨q0, q1⟩ := hG.out.2.1.two; obtain ⟨b0, b1, b2, b3⟩ := hG.out.2.2.1.four; obtain ⟨c0, c1⟩ := hG.out.2.2.2.1.two; obtain ⟨d0, d1⟩ := hG.out.2.2.2.2.1.two; have f := hG.out.2.2.2.1.frozen; have g := hG.out.2.2.2.2.1.frozen))
  | (go_at_call 172; ((with_reducible refine (between_c _ _ _ _ _ _ hp hu ha hc _).mono ?_); rintro e w' ⟨rfl, rfl⟩))
  | (go_at_call 172; ((with_reducible refine (between_c _ _ _ _ _ _ hq hv hb hd _).mono ?_); rintro e w' ⟨rfl, rfl⟩)))
 refine bodyPost_ret (results_move rfl _ _ (w.heap.size + 1 + 1 + 1) (w.heap.size + 1 + 1 + 1 + 1) rfl rfl _ _ _ _ ((((hG.out.2.2.2.1.set0 _).set1 _).far (by omega) _).far (by omega) _) ((((hG.out.2.2.2.2.1.far (by omega) _).far (by omega) _).set0 _).set1 _)) rfl ?_
 exact ⟨rfl, bset (bset (bset (bset hG.out.2.2.2.2.2 (by omega) _ _) (by omega) _ _) (by omega) _ _) (by omega) _ _⟩

/-- the document's move on its way: block B holds the place. -/
structure Six (w W : World) (B : Nat) (x y u v a b c d : Int) : Prop where
 way : At W (w.heap.size + 1) #[.int .i32 u, .int .i32 v] 57
 walls : At W (w.heap.size + 1 + 1) #[.int .i32 a, .int .i32 b, .int .i32 c, .int .i32 d] 162
 one : At W (w.heap.size + 1 + 1 + 1) #[.int .i32 0, .int .i32 0] 57
 two : At W (w.heap.size + 1 + 1 + 1 + 1) #[.int .i32 0, .int .i32 0] 57
 place : At W B #[.int .i32 x, .int .i32 y] 57
 old : Below w.heap.size w W
 far : w.heap.size + 5 ≤ B
theorem Six.new {w W : World} {p q u v a b c d : Int} (h : Five w W p q u v a b c d) (x y : Int) : Six w (W.alloc (.cells #[.int .i32 x, .int .i32 y] 57)) W.heap.size x y u v a b c d :=
 ⟨h.2.1.more _, h.2.2.1.more _, h.2.2.2.1.more _, h.2.2.2.2.1.more _, At.new _ _ _, bal h.2.2.2.2.2 _, h.2.2.2.2.1.lt⟩
theorem Six.px {w W : World} {B : Nat} {x y u v a b c d : Int} (h : Six w W B x y u v a b c d) (z : Int) : Six w (W.setCell ⟨B, 0, none⟩ (.int .i32 z)) B z y u v a b c d := by
 have := h.far
 exact ⟨h.way.far (by omega) _, h.walls.far (by omega) _, h.one.far (by omega) _, h.two.far (by omega) _, h.place.set0 _, bset h.old (by omega) _ _, h.far⟩
theorem Six.py {w W : World} {B : Nat} {x y u v a b c d : Int} (h : Six w W B x y u v a b c d) (z : Int) : Six w (W.setCell ⟨B, 1, none⟩ (.int .i32 z)) B x z u v a b c d := by
 have := h.far
 exact ⟨h.way.far (by omega) _, h.walls.far (by omega) _, h.one.far (by omega) _, h.two.far (by omega) _, h.place.set1 _, bset h.old (by omega) _ _, h.far⟩
theorem Six.wx {w W : World} {B : Nat} {x y u v a b c d : Int} (h : Six w W B x y u v a b c d) (z : Int) : Six w (W.setCell ⟨w.heap.size + 1, 0, none⟩ (.int .i32 z)) B x y z v a b c d := by
 have := h.far
 exact ⟨h.way.set0 _, h.walls.far (by omega) _, h.one.far (by omega) _, h.two.far (by omega) _, h.place.far (by omega) _, bset h.old (by omega) _ _, h.far⟩
theorem Six.wy {w W : World} {B : Nat} {x y u v a b c d : Int} (h : Six w W B x y u v a b c d) (z : Int) : Six w (W.setCell ⟨w.heap.size + 1, 1, none⟩ (.int .i32 z)) B x y u z a b c d := by
 have := h.far
 exact ⟨h.way.set1 _, h.walls.far (by omega) _, h.one.far (by omega) _, h.two.far (by omega) _, h.place.far (by omega) _, bset h.old (by omega) _ _, h.far⟩

/-- both answers stored. -/
theorem Six.fin {w W : World} {B : Nat} {x y u v a b c d : Int} (h : Six w W B x y u v a b c d) :
 At ((((W.setCell ⟨w.heap.size + 1 + 1 + 1, 0, none⟩ (.int .i32 x)).setCell ⟨w.heap.size + 1 + 1 + 1, 1, none⟩ (.int .i32 y)).setCell ⟨w.heap.size + 1 + 1 + 1 + 1, 0, none⟩ (.int .i32 u)).setCell ⟨w.heap.size + 1 + 1 + 1 + 1, 1, none⟩ (.int .i32 v)) (w.heap.size + 1 + 1 + 1) #[.int .i32 x, .int .i32 y] 57 ∧
 At ((((W.setCell ⟨w.heap.size + 1 + 1 + 1, 0, none⟩ (.int .i32 x)).setCell ⟨w.heap.size + 1 + 1 + 1, 1, none⟩ (.int .i32 y)).setCell ⟨w.heap.size + 1 + 1 + 1 + 1, 0, none⟩ (.int .i32 u)).setCell ⟨w.heap.size + 1 + 1 + 1 + 1, 1, none⟩ (.int .i32 v)) (w.heap.size + 1 + 1 + 1 + 1) #[.int .i32 u, .int .i32 v] 57 ∧
 Below w.heap.size w ((((W.setCell ⟨w.heap.size + 1 + 1 + 1, 0, none⟩ (.int .i32 x)).setCell ⟨w.heap.size + 1 + 1 + 1, 1, none⟩ (.int .i32 y)).setCell ⟨w.heap.size + 1 + 1 + 1 + 1, 0, none⟩ (.int .i32 u)).setCell ⟨w.heap.size + 1 + 1 + 1 + 1, 1, none⟩ (.int .i32 v)) :=
 ⟨(((h.one.set0 _).set1 _).far (by omega) _).far (by omega) _, (((h.two.far (by omega) _).far (by omega) _).set0 _).set1 _, bset (bset (bset (bset h.old (by omega) _ _) (by omega) _ _) (by omega) _ _) (by omega) _ _⟩

end Go.Proofs.YtfclnhmijjlhdaaGreatDoor.Sh
